/-
  The reference's Within and Overlap.
-/
import Derived.Test.YtmhnfgfdggjdhaaGreatDoorRef3e
import Derived.Test.YtmhnfgfdggjdhaaGreatDoorPfx8
namespace Go.Proofs.YtmhnfgfdggjdhaaGreatDoor
open Go.ChangeShapes Go.WideShapes Go.ChangeAt Go.RowKit
set_option linter.unusedVariables false
set_option linter.unusedSimpArgs false

theorem ofN_last {v : Bool} {n : Nat} {b : Int} (h : n % 2 ^ behindP v b = 0) : ofN v (lastN v n b) b = n := by
  unfold ofN lastN
  have p := pow_pos2 (behindP v b)
  generalize 2 ^ behindP v b = d at *
  obtain ⟨q, rfl⟩ := Nat.dvd_of_mod_eq_zero h
  rw [Nat.add_comm, Nat.add_mul_div_left _ _ p, Nat.div_eq_of_lt (by omega), Nat.zero_add, Nat.mul_comm]

theorem has_last {v : Bool} {n : Nat} {b : Int} (hk : okP v n b = true) (hn : n < 340282366920938463463374607431768211456) : hasB v n b v (lastN v n b) = true := by
  obtain ⟨hf, hm⟩ := okP_parts hk
  obtain ⟨l1, l2⟩ := lastN_small hk hn
  exact has_mk (fits_less hf l2 (fitsB_parts hf).2.1 (by omega)) (ofN_last hm).symm

theorem mod_less {v : Bool} {n : Nat} {b c : Int} (h : n % 2 ^ behindP v b = 0) (hc : b ≤ c) : n % 2 ^ behindP v c = 0 := by
  have e : behindP v b = behindP v c + (behindP v b - behindP v c) := by unfold behindP; omega
  rw [e, Nat.pow_add] at h
  exact Nat.mod_eq_zero_of_dvd (Nat.dvd_trans (Nat.dvd_mul_right _ _) (Nat.dvd_of_mod_eq_zero h))

/-- One that has the first and the last address has no more bits. -/
theorem ends_bits {v : Bool} {n m : Nat} {b c : Int} (hk : okP v n b = true) (h1 : m = ofN v n c) (h2 : m = ofN v (lastN v n b) c) (hc : c ≤ widthA v) : c ≤ b := by
  apply Classical.byContradiction
  intro hbc
  obtain ⟨hf, hm⟩ := okP_parts hk
  have h0 := (fitsB_parts hf).2.1
  have e : behindP v b = behindP v c + 1 + (behindP v b - behindP v c - 1) := by unfold behindP; omega
  have ml := mod_less (c := c) hm (by omega)
  rw [ofN_self ml] at h1
  subst h1
  unfold ofN lastN at h2
  have p := pow_pos2 (behindP v c)
  have q := pow_pos2 (behindP v b - behindP v c - 1)
  rw [e, Nat.pow_add, Nat.pow_add, Nat.pow_one] at h2
  generalize 2 ^ behindP v c = d at *
  generalize 2 ^ (behindP v b - behindP v c - 1) = g at *
  obtain ⟨j, rfl⟩ := Nat.dvd_of_mod_eq_zero ml
  have l : d * 2 ≤ d * 2 * g := Nat.le_mul_of_pos_right _ q
  have l2 : j + 1 ≤ (d * j + (d * 2 * g - 1)) / d := by
    rw [Nat.le_div_iff_mul_le p, Nat.add_mul, Nat.one_mul, Nat.mul_comm j d]
    omega
  have l3 : (j + 1) * d ≤ d * j := by
    have := Nat.mul_le_mul_right d l2
    omega
  rw [Nat.add_mul, Nat.one_mul, Nat.mul_comm j d] at l3
  omega

theorem within_ref {v : Bool} {n : Nat} {b : Int} {u : Bool} {m : Nat} {c : Int} (hk : okP v n b = true) (hn : n < 340282366920938463463374607431768211456) (hx : hasB u m c v n = true) : withinB v n b u m c = hasB u m c v (lastN v n b) := by
  rw [Bool.eq_iff_iff]
  constructor
  · intro h; exact within_has h (has_last hk hn)
  · intro h
    obtain ⟨rfl, f1, e1⟩ := has_parts hx
    obtain ⟨_, f2, e2⟩ := has_parts h
    simp only [withinB, hk, hx, Bool.true_and, Bool.and_true, decide_eq_true_eq]
    exact ends_bits hk e1 e2 (fitsB_parts f1).2.2

theorem within_no {v : Bool} {n : Nat} {b : Int} {u : Bool} {m : Nat} {c : Int} (h : okP v n b = false ∨ okP u m c = false ∨ hasB u m c v n = false) : withinB v n b u m c = false := by
  cases hx : withinB v n b u m c
  · rfl
  · obtain ⟨h1, h2, h3⟩ := within_parts hx
    have h4 := has_ok h3
    rcases h with h | h | h
    · rw [h] at h1; cases h1
    · rw [h] at h4; cases h4
    · rw [h] at h3; cases h3

theorem over_has {v : Bool} {n : Nat} {b : Int} {u : Bool} {m : Nat} {c : Int} (hp : okP v n b = true) (hq : okP u m c = true) : overB v n b u m c = (hasB u m c v n || hasB v n b u m) := by
  have key : ∀ {v : Bool} {n : Nat} {b : Int} {u : Bool} {m : Nat} {c : Int}, okP v n b = true → okP u m c = true → hasB u m c v n = true → withinB v n b u m c = true ∨ withinB u m c v n b = true := by
    intro v n b u m c hp hq h
    obtain ⟨rfl, f1, e1⟩ := has_parts h
    have hm := (okP_parts hp).2
    have h2 : hasB u n b u n = true := has_mk (okP_parts hp).1 (ofN_self hm).symm
    rcases Int.le_total c b with hc | hc
    · exact Or.inl (has_within h2 h hc)
    · exact Or.inr (has_within h h2 hc)
  rw [Bool.eq_iff_iff]
  unfold overB
  simp only [Bool.or_eq_true]
  constructor
  · rintro (h | h)
    · exact Or.inl (within_parts h).2.2
    · exact Or.inr (within_parts h).2.2
  · rintro (h | h)
    · exact key hp hq h
    · exact (key hq hp h).symm

theorem over_no {v : Bool} {n : Nat} {b : Int} {u : Bool} {m : Nat} {c : Int} (h : okP v n b = false ∨ okP u m c = false) : overB v n b u m c = false := by
  unfold overB
  rcases h with h | h
  · rw [within_no (Or.inl h), within_no (Or.inr (Or.inl h))]; rfl
  · rw [within_no (Or.inr (Or.inl h)), within_no (Or.inl h)]; rfl

set_option maxRecDepth 100000 in
set_option maxHeartbeats 1600000 in
theorem rwithin_c {v u : Bool} {ph pl b qh ql c : Int} {n m : Nat} (hp : IsNum ph pl n) (hq : IsNum qh ql m) (w : World) :
    Calls Tryz.prog 77 #[pv v ph pl b, pv u qh ql c] w fun e w' => e = .returned (.bool (withinB v n b u m c)) ∧ Below w.heap.size w w' := by
  obtain ⟨z, hz⟩ : ∃ z, withinB v n b u m c = z := ⟨_, rfl⟩
  rw [hz]
  obtain ⟨x, hx⟩ : ∃ x, okP v n b = x := ⟨_, rfl⟩
  obtain ⟨y, hy⟩ : ∃ y, okP u m c = y := ⟨_, rfl⟩
  obtain ⟨t, ht⟩ : ∃ t, hasB u m c v n = t := ⟨_, rfl⟩
  have C1 : Hid (∀ w', Calls Tryz.prog 13 #[pv v ph pl b] w' fun e w1 => e = .returned (.bool x) ∧ Below w'.heap.size w' w1) := fun w' => hx ▸ rpright_c hp w'
  have C2 : Hid (∀ w', Calls Tryz.prog 13 #[pv u qh ql c] w' fun e w1 => e = .returned (.bool y) ∧ Below w'.heap.size w' w1) := fun w' => hy ▸ rpright_c hq w'
  have C3 : Hid (∀ w', Calls Tryz.prog 79 #[pv u qh ql c, av v ph pl] w' fun e w1 => e = .returned (.bool t) ∧ Below w'.heap.size w' w1) := fun w' => ht ▸ rhas_c hq hp w'
  have S0 : PP w.heap.size (w.heap.size + 1) v ph pl b u qh ql c ((w.alloc (.cells #[.bool v, .int .u64 ph, .int .u64 pl, .int .i64 b] 28)).alloc (.cells #[.bool u, .int .u64 qh, .int .u64 ql, .int .i64 c] 28)) := PP.of ((Blk.new _ _ _).alloc _) (by simpa using Blk.new (w.alloc (.cells #[.bool v, .int .u64 ph, .int .u64 pl, .int .i64 b] 28)) #[.bool u, .int .u64 qh, .int .u64 ql, .int .i64 c] 28)
  have B0 : Below w.heap.size w ((w.alloc (.cells #[.bool v, .int .u64 ph, .int .u64 pl, .int .i64 b] 28)).alloc (.cells #[.bool u, .int .u64 qh, .int .u64 ql, .int .i64 c] 28)) := by repeat (first | with_reducible exact Below.refl _ _ | with_reducible refine Below.drew ?_ | with_reducible refine Below.alloc ?_ (by first | omega | (simp <;> omega)) _ | with_reducible refine Below.setCell ?_ (by first | omega | (simp <;> omega)) _)
  cases x
  · obtain rfl : z = false := by rw [← hz]; exact within_no (Or.inl hx)
    clear hp hq hx hy ht hz C2 C3
    go_enter Tryz.func77, Tryz.ntmps77
    go_wp2_with fail
    refine wp_region_held_drew (S := (PP w.heap.size (w.heap.size + 1) v ph pl b u qh ql c)) (by kernel_rfl) ?hS100 (fun hHeld => ?rest100)
    case hS100 => (first | with_reducible exact S0.drew | with_reducible exact hHeld.below hb3 | with_reducible exact hHeld.below hb4 | with_reducible exact hHeld.below hb5 | with_reducible exact hHeld.below hb6 | with_reducible exact hHeld.below hb7)
    refine wpAnyH_take (i := 0) (oi := _) (v := ?v101) (List.getElem?_toArray.trans rfl) (by kernel_rfl) (by kernel_rfl) (by kernel_rfl) (fun _ _ _ h => h) (Or.inl ⟨by rfl, ?hy101⟩) (by assumption) ?rest101
    case hy101 => (intro wq hSw; (try simp only [Two, PP] at hSw); go_simp; try with_reducible rfl)
    try simp only [Act.put, List.setIfInBounds_toArray, List.set_cons_zero, List.set_cons_succ]
    refine wpAnyH_ready (rs := [1]) (by kernel_rfl) (by simp) ?rdy102
    refine AllReadyH.cons (List.getElem?_toArray.trans rfl) (fun K hK => ?stp102) AllReadyH.nil
    go_simp
    go_wp2_with fail
    (refine (C1.out _).mono ?_; rintro e w3 ⟨rfl, hb3⟩; have B3 : Below w.heap.size w w3 := Below.via hb3 B0 (Nat.le_refl _) rfl rfl rfl rfl)
    go_wp2_with fail
    refine hK.out _ _ ?hSn102 (fun hHeld2 => ?rest102)
    case hSn102 => (first | with_reducible exact S0.drew | with_reducible exact hHeld.below hb3 | with_reducible exact hHeld.below hb4 | with_reducible exact hHeld.below hb5 | with_reducible exact hHeld.below hb6 | with_reducible exact hHeld.below hb7)
    clear hK K hHeld
    have hHeld := hHeld2
    clear hHeld2
    try simp only [Act.put, List.setIfInBounds_toArray, List.set_cons_zero, List.set_cons_succ]
    refine wpAnyH_take (i := 2) (oi := _) (v := ?v103) (List.getElem?_toArray.trans rfl) (by kernel_rfl) (by kernel_rfl) (by kernel_rfl) (fun _ _ _ h => h) (Or.inl ⟨by rfl, ?hy103⟩) (by assumption) ?rest103
    case hy103 => (intro wq hSw; (try simp only [Two, PP] at hSw); go_simp; try with_reducible rfl)
    try simp only [Act.put, List.setIfInBounds_toArray, List.set_cons_zero, List.set_cons_succ]
    refine wpAnyH_take (i := 3) (oi := _) (v := undef) (List.getElem?_toArray.trans rfl) (by kernel_rfl) (by kernel_rfl) (by kernel_rfl) (fun _ _ _ h => h) (Or.inr ⟨by rfl, rfl⟩) (by assumption) ?rest104
    try simp only [Act.put, List.setIfInBounds_toArray, List.set_cons_zero, List.set_cons_succ]
    refine wpAnyH_take (i := 4) (oi := _) (v := undef) (List.getElem?_toArray.trans rfl) (by kernel_rfl) (by kernel_rfl) (by kernel_rfl) (fun _ _ _ h => h) (Or.inr ⟨by rfl, rfl⟩) (by assumption) ?rest105
    try simp only [Act.put, List.setIfInBounds_toArray, List.set_cons_zero, List.set_cons_succ]
    refine wpAnyH_take (i := 5) (oi := _) (v := ?v106) (List.getElem?_toArray.trans rfl) (by kernel_rfl) (by kernel_rfl) (by kernel_rfl) (fun _ _ _ h => h) (Or.inl ⟨by rfl, ?hy106⟩) (by assumption) ?rest106
    case hy106 => (intro wq hSw; (try simp only [Two, PP] at hSw); go_simp; try with_reducible rfl)
    try simp only [Act.put, List.setIfInBounds_toArray, List.set_cons_zero, List.set_cons_succ]
    refine wpAnyH_take (i := 6) (oi := _) (v := ?v107) (List.getElem?_toArray.trans rfl) (by kernel_rfl) (by kernel_rfl) (by kernel_rfl) (fun _ _ _ h => h) (Or.inl ⟨by rfl, ?hy107⟩) (by assumption) ?rest107
    case hy107 => (intro wq hSw; (try simp only [Two, PP] at hSw); go_simp; try with_reducible rfl)
    try simp only [Act.put, List.setIfInBounds_toArray, List.set_cons_zero, List.set_cons_succ]
    refine wpAnyH_take (i := 7) (oi := _) (v := undef) (List.getElem?_toArray.trans rfl) (by kernel_rfl) (by kernel_rfl) (by kernel_rfl) (fun _ _ _ h => h) (Or.inr ⟨by rfl, rfl⟩) (by assumption) ?rest108
    try simp only [Act.put, List.setIfInBounds_toArray, List.set_cons_zero, List.set_cons_succ]
    refine wpAnyH_take (i := 8) (oi := _) (v := undef) (List.getElem?_toArray.trans rfl) (by kernel_rfl) (by kernel_rfl) (by kernel_rfl) (fun _ _ _ h => h) (Or.inr ⟨by rfl, rfl⟩) (by assumption) ?rest109
    try simp only [Act.put, List.setIfInBounds_toArray, List.set_cons_zero, List.set_cons_succ]
    refine wpAnyH_take (i := 9) (oi := _) (v := undef) (List.getElem?_toArray.trans rfl) (by kernel_rfl) (by kernel_rfl) (by kernel_rfl) (fun _ _ _ h => h) (Or.inr ⟨by rfl, rfl⟩) (by assumption) ?rest110
    try simp only [Act.put, List.setIfInBounds_toArray, List.set_cons_zero, List.set_cons_succ]
    refine wpAnyH_take (i := 10) (oi := _) (v := undef) (List.getElem?_toArray.trans rfl) (by kernel_rfl) (by kernel_rfl) (by kernel_rfl) (fun _ _ _ h => h) (Or.inr ⟨by rfl, rfl⟩) (by assumption) ?rest111
    try simp only [Act.put, List.setIfInBounds_toArray, List.set_cons_zero, List.set_cons_succ]
    refine wpAnyH_take (i := 11) (oi := _) (v := ?v112) (List.getElem?_toArray.trans rfl) (by kernel_rfl) (by kernel_rfl) (by kernel_rfl) (fun _ _ _ h => h) (Or.inl ⟨by rfl, ?hy112⟩) (by assumption) ?rest112
    case hy112 => (intro wq hSw; (try simp only [Two, PP] at hSw); go_simp; try with_reducible rfl)
    try simp only [Act.put, List.setIfInBounds_toArray, List.set_cons_zero, List.set_cons_succ]
    refine wpAnyH_take (i := 12) (oi := _) (v := ?v113) (List.getElem?_toArray.trans rfl) (by kernel_rfl) (by kernel_rfl) (by kernel_rfl) (fun _ _ _ h => h) (Or.inl ⟨by rfl, ?hy113⟩) (by assumption) ?rest113
    case hy113 => (intro wq hSw; (try simp only [Two, PP] at hSw); go_simp; try with_reducible rfl)
    try simp only [Act.put, List.setIfInBounds_toArray, List.set_cons_zero, List.set_cons_succ]
    refine wpAnyH_take (i := 13) (oi := _) (v := undef) (List.getElem?_toArray.trans rfl) (by kernel_rfl) (by kernel_rfl) (by kernel_rfl) (fun _ _ _ h => h) (Or.inr ⟨by rfl, rfl⟩) (by assumption) ?rest114
    try simp only [Act.put, List.setIfInBounds_toArray, List.set_cons_zero, List.set_cons_succ]
    refine wpAnyH_take (i := 14) (oi := _) (v := undef) (List.getElem?_toArray.trans rfl) (by kernel_rfl) (by kernel_rfl) (by kernel_rfl) (fun _ _ _ h => h) (Or.inr ⟨by rfl, rfl⟩) (by assumption) ?rest115
    try simp only [Act.put, List.setIfInBounds_toArray, List.set_cons_zero, List.set_cons_succ]
    refine wpAnyH_take (i := 15) (oi := _) (v := undef) (List.getElem?_toArray.trans rfl) (by kernel_rfl) (by kernel_rfl) (by kernel_rfl) (fun _ _ _ h => h) (Or.inr ⟨by rfl, rfl⟩) (by assumption) ?rest116
    try simp only [Act.put, List.setIfInBounds_toArray, List.set_cons_zero, List.set_cons_succ]
    refine wpAnyH_take (i := 16) (oi := _) (v := undef) (List.getElem?_toArray.trans rfl) (by kernel_rfl) (by kernel_rfl) (by kernel_rfl) (fun _ _ _ h => h) (Or.inr ⟨by rfl, rfl⟩) (by assumption) ?rest117
    try simp only [Act.put, List.setIfInBounds_toArray, List.set_cons_zero, List.set_cons_succ]
    refine wpAnyH_take (i := 17) (oi := _) (v := ?v118) (List.getElem?_toArray.trans rfl) (by kernel_rfl) (by kernel_rfl) (by kernel_rfl) (fun _ _ _ h => h) (Or.inl ⟨by rfl, ?hy118⟩) (by assumption) ?rest118
    case hy118 => (intro wq hSw; (try simp only [Two, PP] at hSw); go_simp; try with_reducible rfl)
    try simp only [Act.put, List.setIfInBounds_toArray, List.set_cons_zero, List.set_cons_succ]
    refine wpAnyH_take (i := 18) (oi := _) (v := ?v119) (List.getElem?_toArray.trans rfl) (by kernel_rfl) (by kernel_rfl) (by kernel_rfl) (fun _ _ _ h => h) (Or.inl ⟨by rfl, ?hy119⟩) (by assumption) ?rest119
    case hy119 => (intro wq hSw; (try simp only [Two, PP] at hSw); go_simp; try with_reducible rfl)
    try simp only [Act.put, List.setIfInBounds_toArray, List.set_cons_zero, List.set_cons_succ]
    refine wpAnyH_done (by kernel_rfl) ?fin100 _
    go_wp2
    go_ret
    exact ⟨by rfl, B3⟩
  · cases y
    · obtain rfl : z = false := by rw [← hz]; exact within_no (Or.inr (Or.inl hy))
      clear hp hq hx hy ht hz C3
      go_enter Tryz.func77, Tryz.ntmps77
      go_wp2_with fail
      refine wp_region_held_drew (S := (PP w.heap.size (w.heap.size + 1) v ph pl b u qh ql c)) (by kernel_rfl) ?hS200 (fun hHeld => ?rest200)
      case hS200 => (first | with_reducible exact S0.drew | with_reducible exact hHeld.below hb3 | with_reducible exact hHeld.below hb4 | with_reducible exact hHeld.below hb5 | with_reducible exact hHeld.below hb6 | with_reducible exact hHeld.below hb7)
      refine wpAnyH_take (i := 0) (oi := _) (v := ?v201) (List.getElem?_toArray.trans rfl) (by kernel_rfl) (by kernel_rfl) (by kernel_rfl) (fun _ _ _ h => h) (Or.inl ⟨by rfl, ?hy201⟩) (by assumption) ?rest201
      case hy201 => (intro wq hSw; (try simp only [Two, PP] at hSw); go_simp; try with_reducible rfl)
      try simp only [Act.put, List.setIfInBounds_toArray, List.set_cons_zero, List.set_cons_succ]
      refine wpAnyH_ready (rs := [1]) (by kernel_rfl) (by simp) ?rdy202
      refine AllReadyH.cons (List.getElem?_toArray.trans rfl) (fun K hK => ?stp202) AllReadyH.nil
      go_simp
      go_wp2_with fail
      (refine (C1.out _).mono ?_; rintro e w3 ⟨rfl, hb3⟩; have B3 : Below w.heap.size w w3 := Below.via hb3 B0 (Nat.le_refl _) rfl rfl rfl rfl)
      go_wp2_with fail
      refine hK.out _ _ ?hSn202 (fun hHeld2 => ?rest202)
      case hSn202 => (first | with_reducible exact S0.drew | with_reducible exact hHeld.below hb3 | with_reducible exact hHeld.below hb4 | with_reducible exact hHeld.below hb5 | with_reducible exact hHeld.below hb6 | with_reducible exact hHeld.below hb7)
      clear hK K hHeld
      have hHeld := hHeld2
      clear hHeld2
      try simp only [Act.put, List.setIfInBounds_toArray, List.set_cons_zero, List.set_cons_succ]
      refine wpAnyH_take (i := 2) (oi := _) (v := ?v203) (List.getElem?_toArray.trans rfl) (by kernel_rfl) (by kernel_rfl) (by kernel_rfl) (fun _ _ _ h => h) (Or.inl ⟨by rfl, ?hy203⟩) (by assumption) ?rest203
      case hy203 => (intro wq hSw; (try simp only [Two, PP] at hSw); go_simp; try with_reducible rfl)
      try simp only [Act.put, List.setIfInBounds_toArray, List.set_cons_zero, List.set_cons_succ]
      refine wpAnyH_take (i := 3) (oi := _) (v := ?v204) (List.getElem?_toArray.trans rfl) (by kernel_rfl) (by kernel_rfl) (by kernel_rfl) (fun _ _ _ h => h) (Or.inl ⟨by rfl, ?hy204⟩) (by assumption) ?rest204
      case hy204 => (intro wq hSw; (try simp only [Two, PP] at hSw); go_simp; try with_reducible rfl)
      try simp only [Act.put, List.setIfInBounds_toArray, List.set_cons_zero, List.set_cons_succ]
      refine wpAnyH_ready (rs := [4]) (by kernel_rfl) (by simp) ?rdy205
      refine AllReadyH.cons (List.getElem?_toArray.trans rfl) (fun K hK => ?stp205) AllReadyH.nil
      go_simp
      go_wp2_with fail
      (refine (C2.out _).mono ?_; rintro e w4 ⟨rfl, hb4⟩; have B4 : Below w.heap.size w w4 := Below.via hb4 B3 (Nat.le_refl _) rfl rfl rfl rfl)
      go_wp2_with fail
      refine hK.out _ _ ?hSn205 (fun hHeld2 => ?rest205)
      case hSn205 => (first | with_reducible exact S0.drew | with_reducible exact hHeld.below hb3 | with_reducible exact hHeld.below hb4 | with_reducible exact hHeld.below hb5 | with_reducible exact hHeld.below hb6 | with_reducible exact hHeld.below hb7)
      clear hK K hHeld
      have hHeld := hHeld2
      clear hHeld2
      try simp only [Act.put, List.setIfInBounds_toArray, List.set_cons_zero, List.set_cons_succ]
      refine wpAnyH_take (i := 5) (oi := _) (v := ?v206) (List.getElem?_toArray.trans rfl) (by kernel_rfl) (by kernel_rfl) (by kernel_rfl) (fun _ _ _ h => h) (Or.inl ⟨by rfl, ?hy206⟩) (by assumption) ?rest206
      case hy206 => (intro wq hSw; (try simp only [Two, PP] at hSw); go_simp; try with_reducible rfl)
      try simp only [Act.put, List.setIfInBounds_toArray, List.set_cons_zero, List.set_cons_succ]
      refine wpAnyH_take (i := 6) (oi := _) (v := ?v207) (List.getElem?_toArray.trans rfl) (by kernel_rfl) (by kernel_rfl) (by kernel_rfl) (fun _ _ _ h => h) (Or.inl ⟨by rfl, ?hy207⟩) (by assumption) ?rest207
      case hy207 => (intro wq hSw; (try simp only [Two, PP] at hSw); go_simp; try with_reducible rfl)
      try simp only [Act.put, List.setIfInBounds_toArray, List.set_cons_zero, List.set_cons_succ]
      refine wpAnyH_take (i := 7) (oi := _) (v := undef) (List.getElem?_toArray.trans rfl) (by kernel_rfl) (by kernel_rfl) (by kernel_rfl) (fun _ _ _ h => h) (Or.inr ⟨by rfl, rfl⟩) (by assumption) ?rest208
      try simp only [Act.put, List.setIfInBounds_toArray, List.set_cons_zero, List.set_cons_succ]
      refine wpAnyH_take (i := 8) (oi := _) (v := undef) (List.getElem?_toArray.trans rfl) (by kernel_rfl) (by kernel_rfl) (by kernel_rfl) (fun _ _ _ h => h) (Or.inr ⟨by rfl, rfl⟩) (by assumption) ?rest209
      try simp only [Act.put, List.setIfInBounds_toArray, List.set_cons_zero, List.set_cons_succ]
      refine wpAnyH_take (i := 9) (oi := _) (v := undef) (List.getElem?_toArray.trans rfl) (by kernel_rfl) (by kernel_rfl) (by kernel_rfl) (fun _ _ _ h => h) (Or.inr ⟨by rfl, rfl⟩) (by assumption) ?rest210
      try simp only [Act.put, List.setIfInBounds_toArray, List.set_cons_zero, List.set_cons_succ]
      refine wpAnyH_take (i := 10) (oi := _) (v := undef) (List.getElem?_toArray.trans rfl) (by kernel_rfl) (by kernel_rfl) (by kernel_rfl) (fun _ _ _ h => h) (Or.inr ⟨by rfl, rfl⟩) (by assumption) ?rest211
      try simp only [Act.put, List.setIfInBounds_toArray, List.set_cons_zero, List.set_cons_succ]
      refine wpAnyH_take (i := 11) (oi := _) (v := ?v212) (List.getElem?_toArray.trans rfl) (by kernel_rfl) (by kernel_rfl) (by kernel_rfl) (fun _ _ _ h => h) (Or.inl ⟨by rfl, ?hy212⟩) (by assumption) ?rest212
      case hy212 => (intro wq hSw; (try simp only [Two, PP] at hSw); go_simp; try with_reducible rfl)
      try simp only [Act.put, List.setIfInBounds_toArray, List.set_cons_zero, List.set_cons_succ]
      refine wpAnyH_take (i := 12) (oi := _) (v := ?v213) (List.getElem?_toArray.trans rfl) (by kernel_rfl) (by kernel_rfl) (by kernel_rfl) (fun _ _ _ h => h) (Or.inl ⟨by rfl, ?hy213⟩) (by assumption) ?rest213
      case hy213 => (intro wq hSw; (try simp only [Two, PP] at hSw); go_simp; try with_reducible rfl)
      try simp only [Act.put, List.setIfInBounds_toArray, List.set_cons_zero, List.set_cons_succ]
      refine wpAnyH_take (i := 13) (oi := _) (v := undef) (List.getElem?_toArray.trans rfl) (by kernel_rfl) (by kernel_rfl) (by kernel_rfl) (fun _ _ _ h => h) (Or.inr ⟨by rfl, rfl⟩) (by assumption) ?rest214
      try simp only [Act.put, List.setIfInBounds_toArray, List.set_cons_zero, List.set_cons_succ]
      refine wpAnyH_take (i := 14) (oi := _) (v := undef) (List.getElem?_toArray.trans rfl) (by kernel_rfl) (by kernel_rfl) (by kernel_rfl) (fun _ _ _ h => h) (Or.inr ⟨by rfl, rfl⟩) (by assumption) ?rest215
      try simp only [Act.put, List.setIfInBounds_toArray, List.set_cons_zero, List.set_cons_succ]
      refine wpAnyH_take (i := 15) (oi := _) (v := undef) (List.getElem?_toArray.trans rfl) (by kernel_rfl) (by kernel_rfl) (by kernel_rfl) (fun _ _ _ h => h) (Or.inr ⟨by rfl, rfl⟩) (by assumption) ?rest216
      try simp only [Act.put, List.setIfInBounds_toArray, List.set_cons_zero, List.set_cons_succ]
      refine wpAnyH_take (i := 16) (oi := _) (v := undef) (List.getElem?_toArray.trans rfl) (by kernel_rfl) (by kernel_rfl) (by kernel_rfl) (fun _ _ _ h => h) (Or.inr ⟨by rfl, rfl⟩) (by assumption) ?rest217
      try simp only [Act.put, List.setIfInBounds_toArray, List.set_cons_zero, List.set_cons_succ]
      refine wpAnyH_take (i := 17) (oi := _) (v := ?v218) (List.getElem?_toArray.trans rfl) (by kernel_rfl) (by kernel_rfl) (by kernel_rfl) (fun _ _ _ h => h) (Or.inl ⟨by rfl, ?hy218⟩) (by assumption) ?rest218
      case hy218 => (intro wq hSw; (try simp only [Two, PP] at hSw); go_simp; try with_reducible rfl)
      try simp only [Act.put, List.setIfInBounds_toArray, List.set_cons_zero, List.set_cons_succ]
      refine wpAnyH_take (i := 18) (oi := _) (v := ?v219) (List.getElem?_toArray.trans rfl) (by kernel_rfl) (by kernel_rfl) (by kernel_rfl) (fun _ _ _ h => h) (Or.inl ⟨by rfl, ?hy219⟩) (by assumption) ?rest219
      case hy219 => (intro wq hSw; (try simp only [Two, PP] at hSw); go_simp; try with_reducible rfl)
      try simp only [Act.put, List.setIfInBounds_toArray, List.set_cons_zero, List.set_cons_succ]
      refine wpAnyH_done (by kernel_rfl) ?fin200 _
      go_wp2
      go_ret
      exact ⟨by rfl, B4⟩
    · cases t
      · obtain rfl : z = false := by rw [← hz]; exact within_no (Or.inr (Or.inr ht))
        clear hp hq hx hy ht hz
        go_enter Tryz.func77, Tryz.ntmps77
        go_wp2_with fail
        refine wp_region_held_drew (S := (PP w.heap.size (w.heap.size + 1) v ph pl b u qh ql c)) (by kernel_rfl) ?hS300 (fun hHeld => ?rest300)
        case hS300 => (first | with_reducible exact S0.drew | with_reducible exact hHeld.below hb3 | with_reducible exact hHeld.below hb4 | with_reducible exact hHeld.below hb5 | with_reducible exact hHeld.below hb6 | with_reducible exact hHeld.below hb7)
        refine wpAnyH_take (i := 0) (oi := _) (v := ?v301) (List.getElem?_toArray.trans rfl) (by kernel_rfl) (by kernel_rfl) (by kernel_rfl) (fun _ _ _ h => h) (Or.inl ⟨by rfl, ?hy301⟩) (by assumption) ?rest301
        case hy301 => (intro wq hSw; (try simp only [Two, PP] at hSw); go_simp; try with_reducible rfl)
        try simp only [Act.put, List.setIfInBounds_toArray, List.set_cons_zero, List.set_cons_succ]
        refine wpAnyH_ready (rs := [1]) (by kernel_rfl) (by simp) ?rdy302
        refine AllReadyH.cons (List.getElem?_toArray.trans rfl) (fun K hK => ?stp302) AllReadyH.nil
        go_simp
        go_wp2_with fail
        (refine (C1.out _).mono ?_; rintro e w3 ⟨rfl, hb3⟩; have B3 : Below w.heap.size w w3 := Below.via hb3 B0 (Nat.le_refl _) rfl rfl rfl rfl)
        go_wp2_with fail
        refine hK.out _ _ ?hSn302 (fun hHeld2 => ?rest302)
        case hSn302 => (first | with_reducible exact S0.drew | with_reducible exact hHeld.below hb3 | with_reducible exact hHeld.below hb4 | with_reducible exact hHeld.below hb5 | with_reducible exact hHeld.below hb6 | with_reducible exact hHeld.below hb7)
        clear hK K hHeld
        have hHeld := hHeld2
        clear hHeld2
        try simp only [Act.put, List.setIfInBounds_toArray, List.set_cons_zero, List.set_cons_succ]
        refine wpAnyH_take (i := 2) (oi := _) (v := ?v303) (List.getElem?_toArray.trans rfl) (by kernel_rfl) (by kernel_rfl) (by kernel_rfl) (fun _ _ _ h => h) (Or.inl ⟨by rfl, ?hy303⟩) (by assumption) ?rest303
        case hy303 => (intro wq hSw; (try simp only [Two, PP] at hSw); go_simp; try with_reducible rfl)
        try simp only [Act.put, List.setIfInBounds_toArray, List.set_cons_zero, List.set_cons_succ]
        refine wpAnyH_take (i := 3) (oi := _) (v := ?v304) (List.getElem?_toArray.trans rfl) (by kernel_rfl) (by kernel_rfl) (by kernel_rfl) (fun _ _ _ h => h) (Or.inl ⟨by rfl, ?hy304⟩) (by assumption) ?rest304
        case hy304 => (intro wq hSw; (try simp only [Two, PP] at hSw); go_simp; try with_reducible rfl)
        try simp only [Act.put, List.setIfInBounds_toArray, List.set_cons_zero, List.set_cons_succ]
        refine wpAnyH_ready (rs := [4]) (by kernel_rfl) (by simp) ?rdy305
        refine AllReadyH.cons (List.getElem?_toArray.trans rfl) (fun K hK => ?stp305) AllReadyH.nil
        go_simp
        go_wp2_with fail
        (refine (C2.out _).mono ?_; rintro e w4 ⟨rfl, hb4⟩; have B4 : Below w.heap.size w w4 := Below.via hb4 B3 (Nat.le_refl _) rfl rfl rfl rfl)
        go_wp2_with fail
        refine hK.out _ _ ?hSn305 (fun hHeld2 => ?rest305)
        case hSn305 => (first | with_reducible exact S0.drew | with_reducible exact hHeld.below hb3 | with_reducible exact hHeld.below hb4 | with_reducible exact hHeld.below hb5 | with_reducible exact hHeld.below hb6 | with_reducible exact hHeld.below hb7)
        clear hK K hHeld
        have hHeld := hHeld2
        clear hHeld2
        try simp only [Act.put, List.setIfInBounds_toArray, List.set_cons_zero, List.set_cons_succ]
        refine wpAnyH_take (i := 5) (oi := _) (v := ?v306) (List.getElem?_toArray.trans rfl) (by kernel_rfl) (by kernel_rfl) (by kernel_rfl) (fun _ _ _ h => h) (Or.inl ⟨by rfl, ?hy306⟩) (by assumption) ?rest306
        case hy306 => (intro wq hSw; (try simp only [Two, PP] at hSw); go_simp; try with_reducible rfl)
        try simp only [Act.put, List.setIfInBounds_toArray, List.set_cons_zero, List.set_cons_succ]
        refine wpAnyH_take (i := 6) (oi := _) (v := ?v307) (List.getElem?_toArray.trans rfl) (by kernel_rfl) (by kernel_rfl) (by kernel_rfl) (fun _ _ _ h => h) (Or.inl ⟨by rfl, ?hy307⟩) (by assumption) ?rest307
        case hy307 => (intro wq hSw; (try simp only [Two, PP] at hSw); go_simp; try with_reducible rfl)
        try simp only [Act.put, List.setIfInBounds_toArray, List.set_cons_zero, List.set_cons_succ]
        refine wpAnyH_take (i := 7) (oi := _) (v := ?v308) (List.getElem?_toArray.trans rfl) (by kernel_rfl) (by kernel_rfl) (by kernel_rfl) (fun _ _ _ h => h) (Or.inl ⟨by rfl, ?hy308⟩) (by assumption) ?rest308
        case hy308 => (intro wq hSw; (try simp only [Two, PP] at hSw); go_simp; try with_reducible rfl)
        try simp only [Act.put, List.setIfInBounds_toArray, List.set_cons_zero, List.set_cons_succ]
        refine wpAnyH_take (i := 8) (oi := _) (v := ?v309) (List.getElem?_toArray.trans rfl) (by kernel_rfl) (by kernel_rfl) (by kernel_rfl) (fun _ _ _ h => h) (Or.inl ⟨by rfl, ?hy309⟩) (by assumption) ?rest309
        case hy309 => (intro wq hSw; (try simp only [Two, PP] at hSw); go_simp; try with_reducible rfl)
        try simp only [Act.put, List.setIfInBounds_toArray, List.set_cons_zero, List.set_cons_succ]
        refine wpAnyH_take (i := 9) (oi := _) (v := ?v310) (List.getElem?_toArray.trans rfl) (by kernel_rfl) (by kernel_rfl) (by kernel_rfl) (fun _ _ _ h => h) (Or.inl ⟨by rfl, ?hy310⟩) (by assumption) ?rest310
        case hy310 => (intro wq hSw; (try simp only [Two, PP] at hSw); go_simp; try with_reducible rfl)
        try simp only [Act.put, List.setIfInBounds_toArray, List.set_cons_zero, List.set_cons_succ]
        refine wpAnyH_ready (rs := [10]) (by kernel_rfl) (by simp) ?rdy311
        refine AllReadyH.cons (List.getElem?_toArray.trans rfl) (fun K hK => ?stp311) AllReadyH.nil
        go_simp
        go_wp2_with fail
        (refine (C3.out _).mono ?_; rintro e w5 ⟨rfl, hb5⟩; have B5 : Below w.heap.size w w5 := Below.via hb5 B4 (Nat.le_refl _) rfl rfl rfl rfl)
        go_wp2_with fail
        refine hK.out _ _ ?hSn311 (fun hHeld2 => ?rest311)
        case hSn311 => (first | with_reducible exact S0.drew | with_reducible exact hHeld.below hb3 | with_reducible exact hHeld.below hb4 | with_reducible exact hHeld.below hb5 | with_reducible exact hHeld.below hb6 | with_reducible exact hHeld.below hb7)
        clear hK K hHeld
        have hHeld := hHeld2
        clear hHeld2
        try simp only [Act.put, List.setIfInBounds_toArray, List.set_cons_zero, List.set_cons_succ]
        refine wpAnyH_take (i := 11) (oi := _) (v := ?v312) (List.getElem?_toArray.trans rfl) (by kernel_rfl) (by kernel_rfl) (by kernel_rfl) (fun _ _ _ h => h) (Or.inl ⟨by rfl, ?hy312⟩) (by assumption) ?rest312
        case hy312 => (intro wq hSw; (try simp only [Two, PP] at hSw); go_simp; try with_reducible rfl)
        try simp only [Act.put, List.setIfInBounds_toArray, List.set_cons_zero, List.set_cons_succ]
        refine wpAnyH_take (i := 12) (oi := _) (v := ?v313) (List.getElem?_toArray.trans rfl) (by kernel_rfl) (by kernel_rfl) (by kernel_rfl) (fun _ _ _ h => h) (Or.inl ⟨by rfl, ?hy313⟩) (by assumption) ?rest313
        case hy313 => (intro wq hSw; (try simp only [Two, PP] at hSw); go_simp; try with_reducible rfl)
        try simp only [Act.put, List.setIfInBounds_toArray, List.set_cons_zero, List.set_cons_succ]
        refine wpAnyH_take (i := 13) (oi := _) (v := undef) (List.getElem?_toArray.trans rfl) (by kernel_rfl) (by kernel_rfl) (by kernel_rfl) (fun _ _ _ h => h) (Or.inr ⟨by rfl, rfl⟩) (by assumption) ?rest314
        try simp only [Act.put, List.setIfInBounds_toArray, List.set_cons_zero, List.set_cons_succ]
        refine wpAnyH_take (i := 14) (oi := _) (v := undef) (List.getElem?_toArray.trans rfl) (by kernel_rfl) (by kernel_rfl) (by kernel_rfl) (fun _ _ _ h => h) (Or.inr ⟨by rfl, rfl⟩) (by assumption) ?rest315
        try simp only [Act.put, List.setIfInBounds_toArray, List.set_cons_zero, List.set_cons_succ]
        refine wpAnyH_take (i := 15) (oi := _) (v := undef) (List.getElem?_toArray.trans rfl) (by kernel_rfl) (by kernel_rfl) (by kernel_rfl) (fun _ _ _ h => h) (Or.inr ⟨by rfl, rfl⟩) (by assumption) ?rest316
        try simp only [Act.put, List.setIfInBounds_toArray, List.set_cons_zero, List.set_cons_succ]
        refine wpAnyH_take (i := 16) (oi := _) (v := undef) (List.getElem?_toArray.trans rfl) (by kernel_rfl) (by kernel_rfl) (by kernel_rfl) (fun _ _ _ h => h) (Or.inr ⟨by rfl, rfl⟩) (by assumption) ?rest317
        try simp only [Act.put, List.setIfInBounds_toArray, List.set_cons_zero, List.set_cons_succ]
        refine wpAnyH_take (i := 17) (oi := _) (v := ?v318) (List.getElem?_toArray.trans rfl) (by kernel_rfl) (by kernel_rfl) (by kernel_rfl) (fun _ _ _ h => h) (Or.inl ⟨by rfl, ?hy318⟩) (by assumption) ?rest318
        case hy318 => (intro wq hSw; (try simp only [Two, PP] at hSw); go_simp; try with_reducible rfl)
        try simp only [Act.put, List.setIfInBounds_toArray, List.set_cons_zero, List.set_cons_succ]
        refine wpAnyH_take (i := 18) (oi := _) (v := ?v319) (List.getElem?_toArray.trans rfl) (by kernel_rfl) (by kernel_rfl) (by kernel_rfl) (fun _ _ _ h => h) (Or.inl ⟨by rfl, ?hy319⟩) (by assumption) ?rest319
        case hy319 => (intro wq hSw; (try simp only [Two, PP] at hSw); go_simp; try with_reducible rfl)
        try simp only [Act.put, List.setIfInBounds_toArray, List.set_cons_zero, List.set_cons_succ]
        refine wpAnyH_done (by kernel_rfl) ?fin300 _
        go_wp2
        go_ret
        exact ⟨by rfl, B5⟩
      · obtain ⟨l1, l2⟩ := lastN_small hx hp.lt
        obtain ⟨lh, ll, hl⟩ := IsNum.ex l1
        have C4 : Hid (∀ w', Calls Tryz.prog 109 #[pv v ph pl b] w' fun e w1 => e = .returned (av v lh ll) ∧ Below w'.heap.size w' w1) := fun w' => rlast_c hp (Or.inl ⟨hx, rfl, hl⟩) w'
        have C5 : Hid (∀ w', Calls Tryz.prog 79 #[pv u qh ql c, av v lh ll] w' fun e w1 => e = .returned (.bool z) ∧ Below w'.heap.size w' w1) := fun w' => (within_ref hx hp.lt ht).symm.trans hz ▸ rhas_c hq hl w'
        clear hp hq hx hy ht hz hl l1 l2
        go_enter Tryz.func77, Tryz.ntmps77
        go_wp2_with fail
        refine wp_region_held_drew (S := (PP w.heap.size (w.heap.size + 1) v ph pl b u qh ql c)) (by kernel_rfl) ?hS400 (fun hHeld => ?rest400)
        case hS400 => (first | with_reducible exact S0.drew | with_reducible exact hHeld.below hb3 | with_reducible exact hHeld.below hb4 | with_reducible exact hHeld.below hb5 | with_reducible exact hHeld.below hb6 | with_reducible exact hHeld.below hb7)
        refine wpAnyH_take (i := 0) (oi := _) (v := ?v401) (List.getElem?_toArray.trans rfl) (by kernel_rfl) (by kernel_rfl) (by kernel_rfl) (fun _ _ _ h => h) (Or.inl ⟨by rfl, ?hy401⟩) (by assumption) ?rest401
        case hy401 => (intro wq hSw; (try simp only [Two, PP] at hSw); go_simp; try with_reducible rfl)
        try simp only [Act.put, List.setIfInBounds_toArray, List.set_cons_zero, List.set_cons_succ]
        refine wpAnyH_ready (rs := [1]) (by kernel_rfl) (by simp) ?rdy402
        refine AllReadyH.cons (List.getElem?_toArray.trans rfl) (fun K hK => ?stp402) AllReadyH.nil
        go_simp
        go_wp2_with fail
        (refine (C1.out _).mono ?_; rintro e w3 ⟨rfl, hb3⟩; have B3 : Below w.heap.size w w3 := Below.via hb3 B0 (Nat.le_refl _) rfl rfl rfl rfl)
        go_wp2_with fail
        refine hK.out _ _ ?hSn402 (fun hHeld2 => ?rest402)
        case hSn402 => (first | with_reducible exact S0.drew | with_reducible exact hHeld.below hb3 | with_reducible exact hHeld.below hb4 | with_reducible exact hHeld.below hb5 | with_reducible exact hHeld.below hb6 | with_reducible exact hHeld.below hb7)
        clear hK K hHeld
        have hHeld := hHeld2
        clear hHeld2
        try simp only [Act.put, List.setIfInBounds_toArray, List.set_cons_zero, List.set_cons_succ]
        refine wpAnyH_take (i := 2) (oi := _) (v := ?v403) (List.getElem?_toArray.trans rfl) (by kernel_rfl) (by kernel_rfl) (by kernel_rfl) (fun _ _ _ h => h) (Or.inl ⟨by rfl, ?hy403⟩) (by assumption) ?rest403
        case hy403 => (intro wq hSw; (try simp only [Two, PP] at hSw); go_simp; try with_reducible rfl)
        try simp only [Act.put, List.setIfInBounds_toArray, List.set_cons_zero, List.set_cons_succ]
        refine wpAnyH_take (i := 3) (oi := _) (v := ?v404) (List.getElem?_toArray.trans rfl) (by kernel_rfl) (by kernel_rfl) (by kernel_rfl) (fun _ _ _ h => h) (Or.inl ⟨by rfl, ?hy404⟩) (by assumption) ?rest404
        case hy404 => (intro wq hSw; (try simp only [Two, PP] at hSw); go_simp; try with_reducible rfl)
        try simp only [Act.put, List.setIfInBounds_toArray, List.set_cons_zero, List.set_cons_succ]
        refine wpAnyH_ready (rs := [4]) (by kernel_rfl) (by simp) ?rdy405
        refine AllReadyH.cons (List.getElem?_toArray.trans rfl) (fun K hK => ?stp405) AllReadyH.nil
        go_simp
        go_wp2_with fail
        (refine (C2.out _).mono ?_; rintro e w4 ⟨rfl, hb4⟩; have B4 : Below w.heap.size w w4 := Below.via hb4 B3 (Nat.le_refl _) rfl rfl rfl rfl)
        go_wp2_with fail
        refine hK.out _ _ ?hSn405 (fun hHeld2 => ?rest405)
        case hSn405 => (first | with_reducible exact S0.drew | with_reducible exact hHeld.below hb3 | with_reducible exact hHeld.below hb4 | with_reducible exact hHeld.below hb5 | with_reducible exact hHeld.below hb6 | with_reducible exact hHeld.below hb7)
        clear hK K hHeld
        have hHeld := hHeld2
        clear hHeld2
        try simp only [Act.put, List.setIfInBounds_toArray, List.set_cons_zero, List.set_cons_succ]
        refine wpAnyH_take (i := 5) (oi := _) (v := ?v406) (List.getElem?_toArray.trans rfl) (by kernel_rfl) (by kernel_rfl) (by kernel_rfl) (fun _ _ _ h => h) (Or.inl ⟨by rfl, ?hy406⟩) (by assumption) ?rest406
        case hy406 => (intro wq hSw; (try simp only [Two, PP] at hSw); go_simp; try with_reducible rfl)
        try simp only [Act.put, List.setIfInBounds_toArray, List.set_cons_zero, List.set_cons_succ]
        refine wpAnyH_take (i := 6) (oi := _) (v := ?v407) (List.getElem?_toArray.trans rfl) (by kernel_rfl) (by kernel_rfl) (by kernel_rfl) (fun _ _ _ h => h) (Or.inl ⟨by rfl, ?hy407⟩) (by assumption) ?rest407
        case hy407 => (intro wq hSw; (try simp only [Two, PP] at hSw); go_simp; try with_reducible rfl)
        try simp only [Act.put, List.setIfInBounds_toArray, List.set_cons_zero, List.set_cons_succ]
        refine wpAnyH_take (i := 7) (oi := _) (v := ?v408) (List.getElem?_toArray.trans rfl) (by kernel_rfl) (by kernel_rfl) (by kernel_rfl) (fun _ _ _ h => h) (Or.inl ⟨by rfl, ?hy408⟩) (by assumption) ?rest408
        case hy408 => (intro wq hSw; (try simp only [Two, PP] at hSw); go_simp; try with_reducible rfl)
        try simp only [Act.put, List.setIfInBounds_toArray, List.set_cons_zero, List.set_cons_succ]
        refine wpAnyH_take (i := 8) (oi := _) (v := ?v409) (List.getElem?_toArray.trans rfl) (by kernel_rfl) (by kernel_rfl) (by kernel_rfl) (fun _ _ _ h => h) (Or.inl ⟨by rfl, ?hy409⟩) (by assumption) ?rest409
        case hy409 => (intro wq hSw; (try simp only [Two, PP] at hSw); go_simp; try with_reducible rfl)
        try simp only [Act.put, List.setIfInBounds_toArray, List.set_cons_zero, List.set_cons_succ]
        refine wpAnyH_take (i := 9) (oi := _) (v := ?v410) (List.getElem?_toArray.trans rfl) (by kernel_rfl) (by kernel_rfl) (by kernel_rfl) (fun _ _ _ h => h) (Or.inl ⟨by rfl, ?hy410⟩) (by assumption) ?rest410
        case hy410 => (intro wq hSw; (try simp only [Two, PP] at hSw); go_simp; try with_reducible rfl)
        try simp only [Act.put, List.setIfInBounds_toArray, List.set_cons_zero, List.set_cons_succ]
        refine wpAnyH_ready (rs := [10]) (by kernel_rfl) (by simp) ?rdy411
        refine AllReadyH.cons (List.getElem?_toArray.trans rfl) (fun K hK => ?stp411) AllReadyH.nil
        go_simp
        go_wp2_with fail
        (refine (C3.out _).mono ?_; rintro e w5 ⟨rfl, hb5⟩; have B5 : Below w.heap.size w w5 := Below.via hb5 B4 (Nat.le_refl _) rfl rfl rfl rfl)
        go_wp2_with fail
        refine hK.out _ _ ?hSn411 (fun hHeld2 => ?rest411)
        case hSn411 => (first | with_reducible exact S0.drew | with_reducible exact hHeld.below hb3 | with_reducible exact hHeld.below hb4 | with_reducible exact hHeld.below hb5 | with_reducible exact hHeld.below hb6 | with_reducible exact hHeld.below hb7)
        clear hK K hHeld
        have hHeld := hHeld2
        clear hHeld2
        try simp only [Act.put, List.setIfInBounds_toArray, List.set_cons_zero, List.set_cons_succ]
        refine wpAnyH_take (i := 11) (oi := _) (v := ?v412) (List.getElem?_toArray.trans rfl) (by kernel_rfl) (by kernel_rfl) (by kernel_rfl) (fun _ _ _ h => h) (Or.inl ⟨by rfl, ?hy412⟩) (by assumption) ?rest412
        case hy412 => (intro wq hSw; (try simp only [Two, PP] at hSw); go_simp; try with_reducible rfl)
        try simp only [Act.put, List.setIfInBounds_toArray, List.set_cons_zero, List.set_cons_succ]
        refine wpAnyH_take (i := 12) (oi := _) (v := ?v413) (List.getElem?_toArray.trans rfl) (by kernel_rfl) (by kernel_rfl) (by kernel_rfl) (fun _ _ _ h => h) (Or.inl ⟨by rfl, ?hy413⟩) (by assumption) ?rest413
        case hy413 => (intro wq hSw; (try simp only [Two, PP] at hSw); go_simp; try with_reducible rfl)
        try simp only [Act.put, List.setIfInBounds_toArray, List.set_cons_zero, List.set_cons_succ]
        refine wpAnyH_take (i := 13) (oi := _) (v := ?v414) (List.getElem?_toArray.trans rfl) (by kernel_rfl) (by kernel_rfl) (by kernel_rfl) (fun _ _ _ h => h) (Or.inl ⟨by rfl, ?hy414⟩) (by assumption) ?rest414
        case hy414 => (intro wq hSw; (try simp only [Two, PP] at hSw); go_simp; try with_reducible rfl)
        try simp only [Act.put, List.setIfInBounds_toArray, List.set_cons_zero, List.set_cons_succ]
        refine wpAnyH_take (i := 14) (oi := _) (v := ?v415) (List.getElem?_toArray.trans rfl) (by kernel_rfl) (by kernel_rfl) (by kernel_rfl) (fun _ _ _ h => h) (Or.inl ⟨by rfl, ?hy415⟩) (by assumption) ?rest415
        case hy415 => (intro wq hSw; (try simp only [Two, PP] at hSw); go_simp; try with_reducible rfl)
        try simp only [Act.put, List.setIfInBounds_toArray, List.set_cons_zero, List.set_cons_succ]
        refine wpAnyH_ready (rs := [15]) (by kernel_rfl) (by simp) ?rdy416
        refine AllReadyH.cons (List.getElem?_toArray.trans rfl) (fun K hK => ?stp416) AllReadyH.nil
        go_simp
        go_wp2_with fail
        (refine (C4.out _).mono ?_; rintro e w6 ⟨rfl, hb6⟩; have B6 : Below w.heap.size w w6 := Below.via hb6 B5 (Nat.le_refl _) rfl rfl rfl rfl)
        go_wp2_with fail
        refine hK.out _ _ ?hSn416 (fun hHeld2 => ?rest416)
        case hSn416 => (first | with_reducible exact S0.drew | with_reducible exact hHeld.below hb3 | with_reducible exact hHeld.below hb4 | with_reducible exact hHeld.below hb5 | with_reducible exact hHeld.below hb6 | with_reducible exact hHeld.below hb7)
        clear hK K hHeld
        have hHeld := hHeld2
        clear hHeld2
        try simp only [Act.put, List.setIfInBounds_toArray, List.set_cons_zero, List.set_cons_succ]
        refine wpAnyH_ready (rs := [16]) (by kernel_rfl) (by simp) ?rdy417
        refine AllReadyH.cons (List.getElem?_toArray.trans rfl) (fun K hK => ?stp417) AllReadyH.nil
        go_simp
        go_wp2_with fail
        (refine (C5.out _).mono ?_; rintro e w7 ⟨rfl, hb7⟩; have B7 : Below w.heap.size w w7 := Below.via hb7 B6 (Nat.le_refl _) rfl rfl rfl rfl)
        go_wp2_with fail
        refine hK.out _ _ ?hSn417 (fun hHeld2 => ?rest417)
        case hSn417 => (first | with_reducible exact S0.drew | with_reducible exact hHeld.below hb3 | with_reducible exact hHeld.below hb4 | with_reducible exact hHeld.below hb5 | with_reducible exact hHeld.below hb6 | with_reducible exact hHeld.below hb7)
        clear hK K hHeld
        have hHeld := hHeld2
        clear hHeld2
        try simp only [Act.put, List.setIfInBounds_toArray, List.set_cons_zero, List.set_cons_succ]
        refine wpAnyH_take (i := 17) (oi := _) (v := ?v418) (List.getElem?_toArray.trans rfl) (by kernel_rfl) (by kernel_rfl) (by kernel_rfl) (fun _ _ _ h => h) (Or.inl ⟨by rfl, ?hy418⟩) (by assumption) ?rest418
        case hy418 => (intro wq hSw; (try simp only [Two, PP] at hSw); go_simp; try with_reducible rfl)
        try simp only [Act.put, List.setIfInBounds_toArray, List.set_cons_zero, List.set_cons_succ]
        refine wpAnyH_take (i := 18) (oi := _) (v := ?v419) (List.getElem?_toArray.trans rfl) (by kernel_rfl) (by kernel_rfl) (by kernel_rfl) (fun _ _ _ h => h) (Or.inl ⟨by rfl, ?hy419⟩) (by assumption) ?rest419
        case hy419 => (intro wq hSw; (try simp only [Two, PP] at hSw); go_simp; try with_reducible rfl)
        try simp only [Act.put, List.setIfInBounds_toArray, List.set_cons_zero, List.set_cons_succ]
        refine wpAnyH_done (by kernel_rfl) ?fin400 _
        go_wp2
        go_ret
        exact ⟨by rfl, B7⟩

set_option maxHeartbeats 1600000 in
theorem rover_c {v u : Bool} {ph pl b qh ql c : Int} {n m : Nat} (hp : IsNum ph pl n) (hq : IsNum qh ql m) (w : World) :
    Calls Tryz.prog 44 #[pv v ph pl b, pv u qh ql c] w fun e w' => e = .returned (.bool (overB v n b u m c)) ∧ Below w.heap.size w w' := by
  obtain ⟨z, hz⟩ : ∃ z, overB v n b u m c = z := ⟨_, rfl⟩
  rw [hz]
  obtain ⟨x, hx⟩ : ∃ x, okP v n b = x := ⟨_, rfl⟩
  obtain ⟨y, hy⟩ : ∃ y, okP u m c = y := ⟨_, rfl⟩
  obtain ⟨t, ht⟩ : ∃ t, hasB u m c v n = t := ⟨_, rfl⟩
  obtain ⟨s, hs⟩ : ∃ s, hasB v n b u m = s := ⟨_, rfl⟩
  have C1 : Hid (∀ w', Calls Tryz.prog 13 #[pv v ph pl b] w' fun e w1 => e = .returned (.bool x) ∧ Below w'.heap.size w' w1) := fun w' => hx ▸ rpright_c hp w'
  have C2 : Hid (∀ w', Calls Tryz.prog 13 #[pv u qh ql c] w' fun e w1 => e = .returned (.bool y) ∧ Below w'.heap.size w' w1) := fun w' => hy ▸ rpright_c hq w'
  have C3 : Hid (∀ w', Calls Tryz.prog 79 #[pv u qh ql c, av v ph pl] w' fun e w1 => e = .returned (.bool t) ∧ Below w'.heap.size w' w1) := fun w' => ht ▸ rhas_c hq hp w'
  have C4 : Hid (∀ w', Calls Tryz.prog 79 #[pv v ph pl b, av u qh ql] w' fun e w1 => e = .returned (.bool s) ∧ Below w'.heap.size w' w1) := fun w' => hs ▸ rhas_c hp hq w'
  have R : PP w.heap.size (w.heap.size + 1) v ph pl b u qh ql c ((w.alloc (.cells #[.bool v, .int .u64 ph, .int .u64 pl, .int .i64 b] 28)).alloc (.cells #[.bool u, .int .u64 qh, .int .u64 ql, .int .i64 c] 28)) := PP.of ((Blk.new _ _ _).alloc _) (by simpa using Blk.new (w.alloc (.cells #[.bool v, .int .u64 ph, .int .u64 pl, .int .i64 b] 28)) #[.bool u, .int .u64 qh, .int .u64 ql, .int .i64 c] 28)
  have B0 : Below w.heap.size w ((w.alloc (.cells #[.bool v, .int .u64 ph, .int .u64 pl, .int .i64 b] 28)).alloc (.cells #[.bool u, .int .u64 qh, .int .u64 ql, .int .i64 c] 28)) := by repeat (first | with_reducible exact Below.refl _ _ | with_reducible refine Below.drew ?_ | with_reducible refine Below.alloc ?_ (by first | omega | (simp <;> omega)) _ | with_reducible refine Below.setCell ?_ (by first | omega | (simp <;> omega)) _)
  cases x
  · obtain rfl : z = false := by rw [← hz]; exact over_no (Or.inl hx)
    clear hp hq hx hy ht hz hs
    have F := R.1
    go_enter Tryz.func44, Tryz.ntmps44
    go_wp2_with fail
    refine (C1.out _).mono ?_
    rintro e wn ⟨rfl, hb⟩
    replace B0 := B0.trans (hb.mono B0.size)
    replace R := R.below hb
    replace F := R.1
    clear hb
    go_wp2
    go_ret
    exact ⟨by rfl, B0⟩
  · cases y
    · obtain rfl : z = false := by rw [← hz]; exact over_no (Or.inr hy)
      clear hp hq hx hy ht hz hs
      have F := R.1
      go_enter Tryz.func44, Tryz.ntmps44
      go_wp2_with fail
      refine (C1.out _).mono ?_
      rintro e wn ⟨rfl, hb⟩
      replace B0 := B0.trans (hb.mono B0.size)
      replace R := R.below hb
      replace F := R.1
      clear hb
      go_wp2_with fail
      refine (C2.out _).mono ?_
      rintro e wn ⟨rfl, hb⟩
      replace B0 := B0.trans (hb.mono B0.size)
      replace R := R.below hb
      replace F := R.1
      clear hb
      go_wp2
      go_ret
      exact ⟨by rfl, B0⟩
    · have e := over_has hx hy
      rw [hz, ht, hs] at e
      cases t
      · obtain rfl : z = s := by simpa using e
        clear hp hq hx hy ht hz hs e
        have F := R.1
        go_enter Tryz.func44, Tryz.ntmps44
        go_wp2_with fail
        refine (C1.out _).mono ?_
        rintro e wn ⟨rfl, hb⟩
        replace B0 := B0.trans (hb.mono B0.size)
        replace R := R.below hb
        replace F := R.1
        clear hb
        go_wp2_with fail
        refine (C2.out _).mono ?_
        rintro e wn ⟨rfl, hb⟩
        replace B0 := B0.trans (hb.mono B0.size)
        replace R := R.below hb
        replace F := R.1
        clear hb
        go_wp2_with fail
        refine (C3.out _).mono ?_
        rintro e wn ⟨rfl, hb⟩
        replace B0 := B0.trans (hb.mono B0.size)
        replace R := R.below hb
        replace F := R.1
        clear hb
        go_wp2_with fail
        refine (C4.out _).mono ?_
        rintro e wn ⟨rfl, hb⟩
        replace B0 := B0.trans (hb.mono B0.size)
        replace R := R.below hb
        replace F := R.1
        clear hb
        go_wp2
        go_ret
        exact ⟨by rfl, B0⟩
      · obtain rfl : z = true := by simpa using e
        clear hp hq hx hy ht hz hs e
        have F := R.1
        go_enter Tryz.func44, Tryz.ntmps44
        go_wp2_with fail
        refine (C1.out _).mono ?_
        rintro e wn ⟨rfl, hb⟩
        replace B0 := B0.trans (hb.mono B0.size)
        replace R := R.below hb
        replace F := R.1
        clear hb
        go_wp2_with fail
        refine (C2.out _).mono ?_
        rintro e wn ⟨rfl, hb⟩
        replace B0 := B0.trans (hb.mono B0.size)
        replace R := R.below hb
        replace F := R.1
        clear hb
        go_wp2_with fail
        refine (C3.out _).mono ?_
        rintro e wn ⟨rfl, hb⟩
        replace B0 := B0.trans (hb.mono B0.size)
        replace R := R.below hb
        replace F := R.1
        clear hb
        go_wp2
        go_ret
        exact ⟨by rfl, B0⟩
end Go.Proofs.YtmhnfgfdggjdhaaGreatDoor

/-
  Texts RPr5, RPr7 of the proof.
-/
import Derived.Test.YtipjmmhlfmahbaaGreatDoorP35
import Derived.Test.YtipjmmhlfmahbaaGreatDoorP29
import Derived.Test.YtipjmmhlfmahbaaGreatDoorP41

namespace Go.Proofs.YtipjmmhlfmahbaaGreatDoor
open Go.ChangeShapes Go.WideShapes Go.ChangeAt Go.RowKit
set_option linter.unusedVariables false
set_option linter.unusedSimpArgs false

set_option maxHeartbeats 800000 in
theorem rprint03_no {v : Bool} {h l b : Int} {n : Nat} (hp : IsNum h l n) (hk : okP v n b = false) (w : World) :
    Calls Tryz.prog 8 #[pv v h l b] w fun e w' => e = .returned (.string (prP v n b)) ∧ Below w.heap.size w w' := by
  have RT : Hid (∀ w', Calls Tryz.prog 9 #[pv v h l b] w' fun e w1 => e = .returned (.bool false) ∧ Below w'.heap.size w' w1) := fun w' => hk ▸ rpright_c hp w'
  have PA : Hid (prP v n b = ⟨#[]⟩) := by show _ = _; unfold prP; rw [if_neg (by rw [hk]; simp)]
  have K0 : Kn w [(w.heap.size, [.bool v, .int .u64 h, .int .u64 l, .int .i64 b], 28)] (w.alloc (.cells #[.bool v, .int .u64 h, .int .u64 l, .int .i64 b] 28)) := (Kn.nil w).push rfl
  clear hp hk
  go_enter Tryz.func8, Tryz.ntmps8
  go_wp2_with fail
  refine (RT.out _).mono ?_
  rintro e w1 ⟨rfl, hb⟩
  have B := (K0.below hb).bel
  clear RT hb K0
  go_wp2
  go_ret
  exact ⟨by rw [PA.out]; rfl, B⟩

set_option maxRecDepth 100000 in
set_option maxHeartbeats 1600000 in
theorem rprint03_ok {v : Bool} {h l b : Int} {n : Nat} (hp : IsNum h l n) (hk : okP v n b = true)
    (PR : Hid (∀ w', Calls Tryz.prog 21 #[av v h l] w' fun e w1 => e = .returned (.string (prA v n)) ∧ Below w'.heap.size w' w1)) (w : World) :
    Calls Tryz.prog 8 #[pv v h l b] w fun e w' => e = .returned (.string (prP v n b)) ∧ Below w.heap.size w w' := by
  have RT : Hid (∀ w', Calls Tryz.prog 9 #[pv v h l b] w' fun e w1 => e = .returned (.bool true) ∧ Below w'.heap.size w' w1) := fun w' => hk ▸ rpright_c hp w'
  obtain ⟨_, b0, b1⟩ := fitsB_parts (okP_parts hk).1
  have hw := width_le v
  have DE : Hid (∀ w', Calls Tryz.prog 22 #[.int .i64 b] w' fun e w1 => e = .returned (.string (bitsT b)) ∧ Below w'.heap.size w' w1) := fun w' => by
    have := rdec_c (n := b.toNat) (by omega) w'
    rw [show ((b.toNat : Nat) : Int) = b by omega] at this
    exact this
  have PA : Hid (prP v n b = prA v n ++ ⟨#[47]⟩ ++ bitsT b) := by show _ = _; unfold prP; rw [if_pos hk]
  have s0 := prA_size v n
  have s1 : (bitsT b).size ≤ 20 := by
    have := decDigits_len (n := b.toNat) (by omega)
    show (Lib.decDigits b.toNat).toArray.size ≤ 20
    rw [List.size_toArray]
    exact this
  have K0 : Kn w [(w.heap.size, [.bool v, .int .u64 h, .int .u64 l, .int .i64 b], 28)] (w.alloc (.cells #[.bool v, .int .u64 h, .int .u64 l, .int .i64 b] 28)) := (Kn.nil w).push rfl
  generalize prA v n = t0 at *
  generalize bitsT b = t1 at *
  clear hp hk hw b0 b1
  go_enter Tryz.func8, Tryz.ntmps8
  go_wp2_with fail
  refine (RT.out _).mono ?_
  rintro e w1 ⟨rfl, hb⟩
  have K1 := K0.below hb
  clear RT hb K0
  go_wp2_with fail
  refine wp_region_held_drew (S := (Kn w [(w.heap.size, [.bool v, .int .u64 h, .int .u64 l, .int .i64 b], 28)])) (by kernel_rfl) ?hS100 (fun hHeld => ?rest100)
  case hS100 => (first | with_reducible exact K1.drew | with_reducible exact hHeld.below hb4 | with_reducible exact hHeld.below hb5)
  refine wpAnyH_take (i := 0) (oi := _) (v := ?v101) (List.getElem?_toArray.trans rfl) (by kernel_rfl) (by kernel_rfl) (by kernel_rfl) (fun _ _ _ h => h) (Or.inl ⟨by rfl, ?hy101⟩) (by assumption) ?rest101
  case hy101 => (intro wq hSw; (try simp only [Two, Kn, Facts, CellsAt] at hSw); go_simp; try with_reducible rfl)
  try simp only [Act.put, List.setIfInBounds_toArray, List.set_cons_zero, List.set_cons_succ]
  refine wpAnyH_take (i := 1) (oi := _) (v := ?v102) (List.getElem?_toArray.trans rfl) (by kernel_rfl) (by kernel_rfl) (by kernel_rfl) (fun _ _ _ h => h) (Or.inl ⟨by rfl, ?hy102⟩) (by assumption) ?rest102
  case hy102 => (intro wq hSw; (try simp only [Two, Kn, Facts, CellsAt] at hSw); go_simp; try with_reducible rfl)
  try simp only [Act.put, List.setIfInBounds_toArray, List.set_cons_zero, List.set_cons_succ]
  refine wpAnyH_take (i := 4) (oi := _) (v := ?v103) (List.getElem?_toArray.trans rfl) (by kernel_rfl) (by kernel_rfl) (by kernel_rfl) (fun _ _ _ h => h) (Or.inl ⟨by rfl, ?hy103⟩) (by assumption) ?rest103
  case hy103 => (intro wq hSw; (try simp only [Two, Kn, Facts, CellsAt] at hSw); go_simp; try with_reducible rfl)
  try simp only [Act.put, List.setIfInBounds_toArray, List.set_cons_zero, List.set_cons_succ]
  refine wpAnyH_take (i := 5) (oi := _) (v := ?v104) (List.getElem?_toArray.trans rfl) (by kernel_rfl) (by kernel_rfl) (by kernel_rfl) (fun _ _ _ h => h) (Or.inl ⟨by rfl, ?hy104⟩) (by assumption) ?rest104
  case hy104 => (intro wq hSw; (try simp only [Two, Kn, Facts, CellsAt] at hSw); go_simp; try with_reducible rfl)
  try simp only [Act.put, List.setIfInBounds_toArray, List.set_cons_zero, List.set_cons_succ]
  refine wpAnyH_ready (rs := [2]) (by kernel_rfl) (by simp) ?rdy105
  refine AllReadyH.cons (List.getElem?_toArray.trans rfl) (fun K hK => ?stp105) AllReadyH.nil
  go_simp
  go_wp2_with fail
  (refine (PR.out _).mono ?_; rintro e w4 ⟨rfl, hb4⟩)
  go_wp2_with fail
  refine hK.out _ _ ?hSn105 (fun hHeld2 => ?rest105)
  case hSn105 => (first | with_reducible exact K1.drew | with_reducible exact hHeld.below hb4 | with_reducible exact hHeld.below hb5)
  clear hK K hHeld
  have hHeld := hHeld2
  clear hHeld2
  try simp only [Act.put, List.setIfInBounds_toArray, List.set_cons_zero, List.set_cons_succ]
  refine wpAnyH_take (i := 3) (oi := _) (v := (.string (t0 ++ ⟨#[47]⟩))) (List.getElem?_toArray.trans rfl) (by kernel_rfl) (by kernel_rfl) (by kernel_rfl) (fun _ _ _ h => h) (Or.inl ⟨by rfl, ?hy106⟩) (by assumption) ?rest106
  case hy106 => (intro wq hSw; (try simp only [Two, Kn, Facts, CellsAt] at hSw); go_simp; (all_goals omega))
  try simp only [Act.put, List.setIfInBounds_toArray, List.set_cons_zero, List.set_cons_succ]
  refine wpAnyH_ready (rs := [6]) (by kernel_rfl) (by simp) ?rdy107
  refine AllReadyH.cons (List.getElem?_toArray.trans rfl) (fun K hK => ?stp107) AllReadyH.nil
  go_simp
  go_wp2_with fail
  (refine (DE.out _).mono ?_; rintro e w5 ⟨rfl, hb5⟩)
  go_wp2_with fail
  refine hK.out _ _ ?hSn107 (fun hHeld2 => ?rest107)
  case hSn107 => (first | with_reducible exact K1.drew | with_reducible exact hHeld.below hb4 | with_reducible exact hHeld.below hb5)
  clear hK K hHeld
  have hHeld := hHeld2
  clear hHeld2
  try simp only [Act.put, List.setIfInBounds_toArray, List.set_cons_zero, List.set_cons_succ]
  refine wpAnyH_take (i := 7) (oi := _) (v := (.string (t0 ++ ⟨#[47]⟩ ++ t1))) (List.getElem?_toArray.trans rfl) (by kernel_rfl) (by kernel_rfl) (by kernel_rfl) (fun _ _ _ h => h) (Or.inl ⟨by rfl, ?hy108⟩) (by assumption) ?rest108
  case hy108 => (intro wq hSw; (try simp only [Two, Kn, Facts, CellsAt] at hSw); go_simp; (all_goals omega))
  try simp only [Act.put, List.setIfInBounds_toArray, List.set_cons_zero, List.set_cons_succ]
  refine wpAnyH_take (i := 8) (oi := _) (v := ?v109) (List.getElem?_toArray.trans rfl) (by kernel_rfl) (by kernel_rfl) (by kernel_rfl) (fun _ _ _ h => h) (Or.inl ⟨by rfl, ?hy109⟩) (by assumption) ?rest109
  case hy109 => (intro wq hSw; (try simp only [Two, Kn, Facts, CellsAt] at hSw); go_simp; try with_reducible rfl)
  try simp only [Act.put, List.setIfInBounds_toArray, List.set_cons_zero, List.set_cons_succ]
  refine wpAnyH_done (by kernel_rfl) ?fin100 _
  have B := hHeld.bel
  clear hHeld K1 hb4 hb5 PR DE
  go_wp2
  go_ret
  exact ⟨by rw [PA.out]; rfl, B⟩
end Go.Proofs.YtipjmmhlfmahbaaGreatDoor

namespace Go.Proofs.YtipjmmhlfmahbaaGreatDoor
open Go.ChangeShapes Go.WideShapes Go.ChangeAt Go.RowKit
set_option linter.unusedVariables false
set_option linter.unusedSimpArgs false

theorem rprint03_c {v : Bool} {h l b : Int} {n : Nat} (hp : IsNum h l n) (w : World) :
    Calls Tryz.prog 8 #[pv v h l b] w fun e w' => e = .returned (.string (prP v n b)) ∧ Below w.heap.size w w' := by
  by_cases hk : okP v n b = true
  · exact rprint03_ok hp hk (fun w' => rprint02_c hp w') w
  · exact rprint03_no hp (Bool.eq_false_iff.2 hk) w
end Go.Proofs.YtipjmmhlfmahbaaGreatDoor

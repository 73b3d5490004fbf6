/-
  The walk of CarveSpreads where there is no spread; plain facts on neighbours.
-/
import Derived.Test.YtmhnfgfdggjdhaaGreatDoorSpread
import Derived.Test.YtmhnfgfdggjdhaaGreatDoorCParts
namespace Go.Proofs.YtmhnfgfdggjdhaaGreatDoor
open Go.ChangeShapes Go.WideShapes Go.ChangeAt Go.RowKit
set_option linter.unusedVariables false
set_option linter.unusedSimpArgs false

theorem tiles_at : ∀ {s t : Nat} {L : List (Nat × Nat)}, Tiles s t L → ∀ (i : Nat) (h : i < L.length), (i = 0 → (L[i]).1 = s) ∧ (∀ h2 : i + 1 < L.length, (L[i + 1]).1 = (L[i]).1 + 2 ^ (L[i]).2) ∧ (i + 1 = L.length → (L[i]).1 + 2 ^ (L[i]).2 = t)
  | s, t, [], _, i, h => absurd h (by simp)
  | s, t, p :: r, hT, 0, h => by
    refine ⟨fun _ => hT.1, fun h2 => ?_, fun h3 => ?_⟩
    · have := (tiles_at hT.2 0 (by simpa using h2)).1 rfl
      simpa using this
    · obtain rfl : r = [] := List.eq_nil_of_length_eq_zero (by simpa using h3)
      exact hT.2
  | s, t, p :: r, hT, i + 1, h => by
    obtain ⟨_, h2, h3⟩ := tiles_at hT.2 i (by simpa using h)
    refine ⟨fun q => absurd q (by omega), fun q => ?_, fun q => ?_⟩
    · have := h2 (by simpa using q)
      simpa using this
    · have := h3 (by simpa using q)
      simpa using this

theorem cspr_start (w : World) (v : Bool) (ah al : Int) (u : Bool) (zh zl : Int) (s : Bool) (ch cl : Int) : Kn w [(w.heap.size + 1 + 1, [.bool s, .int .u64 ch, .int .u64 cl], 26), (w.heap.size + 1, [.bool u, .int .u64 zh, .int .u64 zl], 26), (w.heap.size, [.bool v, .int .u64 ah, .int .u64 al], 26)] (((w.alloc (.cells #[.bool v, .int .u64 ah, .int .u64 al] 26)).alloc (.cells #[.bool u, .int .u64 zh, .int .u64 zl] 26)).alloc (.cells #[.bool s, .int .u64 ch, .int .u64 cl] 26)) :=
  (((Kn.nil w).push rfl).push (by simp)).push (by simp)

theorem spr_gt {v u : Bool} {ah al zh zl : Int} {a z : Nat} (hA : IsNum ah al a) (hz : IsNum zh zl z) (h3 : v = u) (h4 : z < a) (w : World) :
    Calls Tryz.prog 15 #[av v ah al, av u zh zl] w fun e w1 => ∃ m : Int, e = .returned (.int .i64 m) ∧ 0 < m ∧ Below w.heap.size w w1 := by
  subst h3
  refine (cmp_one hA hz w).mono ?_
  rintro e w1 ⟨m, rfl, hm, hb⟩
  exact ⟨m, rfl, by rw [hm.out, cmpI_gt (by omega)]; decide, hb⟩

set_option maxRecDepth 100000 in
set_option maxHeartbeats 1600000 in
theorem spr_no_a {v u s : Bool} {ah al zh zl ch cl : Int} {a z : Nat} (hA : IsNum ah al a) (hz : IsNum zh zl z) (h1 : okA v a = false) (w : World) (hL : LW w)
    (aw : ∀ w, LW w → Calls Tryz.prog 29 #[] w fun e w' => e = .returned (.bool true) ∧ Below w.heap.size w w') :
    Calls Tryz.prog 10 #[av v ah al, av u zh zl, av s ch cl] w fun e w' => e = .returned (.bool true) ∧ Below w.heap.size w w' := by
  have hsz := hL.sz
  have K := cspr_start w v ah al u zh zl s ch cl
  have AW : Hid (Calls Tryz.prog 29 #[] _ _) := aw _ (hL.of K.bel hsz)
  have S1 : Hid (∀ w', Calls Tryz.prog 45 #[av v ah al, av u zh zl] w' fun e w1 => e = .returned (.tuple #[.slice none 0 0, .int .i64 1]) ∧ Below w'.heap.size w' w1) := fun w' => spread_no hA hz (fun q => by rw [h1] at q; exact absurd q.1 (by decide)) w'
  have R1 : Hid (∀ w', Calls Tryz.prog 14 #[av v ah al] w' fun e w1 => e = .returned (.bool false) ∧ Below w'.heap.size w' w1) := fun w' => h1 ▸ aright_c hA w'
  have Q1 : Hid (True) := trivial
  have M1 : Hid (True) := trivial
  clear hL aw hA hz
  skip
  all_goals
    go_enter Tryz.func10, Tryz.ntmps10
    go_wp2_with fail
    refine AW.out.mono ?_
    rintro e w1 ⟨rfl, hb⟩
    replace K := K.below hb
    have F := K.1
    simp only [Facts, CellsAt] at F
    clear hb AW
    go_wp2_with fail
    refine (S1.out _).mono ?_
    rintro e w2 ⟨rfl, hb⟩
    replace K := K.below hb
    replace F := K.1
    simp only [Facts, CellsAt] at F
    clear hb S1
    go_wp2_with fail
    refine (R1.out _).mono ?_
    rintro e w3 ⟨rfl, hb⟩
    replace K := K.below hb
    replace F := K.1
    simp only [Facts, CellsAt] at F
    clear hb R1
    skip
    have B := K.bel
    clear K Q1 M1
    go_wp2
    go_ret
    exact ⟨by first | rfl | simp, B⟩

set_option maxRecDepth 100000 in
set_option maxHeartbeats 1600000 in
theorem spr_no_b {v u s : Bool} {ah al zh zl ch cl : Int} {a z : Nat} (hA : IsNum ah al a) (hz : IsNum zh zl z) (h1 : okA v a = true) (h2 : okA u z = false) (w : World) (hL : LW w)
    (aw : ∀ w, LW w → Calls Tryz.prog 29 #[] w fun e w' => e = .returned (.bool true) ∧ Below w.heap.size w w') :
    Calls Tryz.prog 10 #[av v ah al, av u zh zl, av s ch cl] w fun e w' => e = .returned (.bool true) ∧ Below w.heap.size w w' := by
  have hsz := hL.sz
  have K := cspr_start w v ah al u zh zl s ch cl
  have AW : Hid (Calls Tryz.prog 29 #[] _ _) := aw _ (hL.of K.bel hsz)
  have S1 : Hid (∀ w', Calls Tryz.prog 45 #[av v ah al, av u zh zl] w' fun e w1 => e = .returned (.tuple #[.slice none 0 0, .int .i64 1]) ∧ Below w'.heap.size w' w1) := fun w' => spread_no hA hz (fun q => by rw [h2] at q; exact absurd q.2.1 (by decide)) w'
  have R1 : Hid (∀ w', Calls Tryz.prog 14 #[av v ah al] w' fun e w1 => e = .returned (.bool true) ∧ Below w'.heap.size w' w1) := fun w' => h1 ▸ aright_c hA w'
  have Q1 : Hid (∀ w', Calls Tryz.prog 14 #[av u zh zl] w' fun e w1 => e = .returned (.bool false) ∧ Below w'.heap.size w' w1) := fun w' => h2 ▸ aright_c hz w'
  have M1 : Hid (True) := trivial
  clear hL aw hA hz
  skip
  all_goals
    go_enter Tryz.func10, Tryz.ntmps10
    go_wp2_with fail
    refine AW.out.mono ?_
    rintro e w1 ⟨rfl, hb⟩
    replace K := K.below hb
    have F := K.1
    simp only [Facts, CellsAt] at F
    clear hb AW
    go_wp2_with fail
    refine (S1.out _).mono ?_
    rintro e w2 ⟨rfl, hb⟩
    replace K := K.below hb
    replace F := K.1
    simp only [Facts, CellsAt] at F
    clear hb S1
    go_wp2_with fail
    refine (R1.out _).mono ?_
    rintro e w3 ⟨rfl, hb⟩
    replace K := K.below hb
    replace F := K.1
    simp only [Facts, CellsAt] at F
    clear hb R1
    (go_wp2_with fail; refine (Q1.out _).mono ?_; rintro e w4 ⟨rfl, hb⟩; replace K := K.below hb; replace F := K.1; simp only [Facts, CellsAt] at F; clear hb)
    have B := K.bel
    clear K Q1 M1
    go_wp2
    go_ret
    exact ⟨by first | rfl | simp, B⟩

set_option maxRecDepth 100000 in
set_option maxHeartbeats 1600000 in
theorem spr_no_c {v u s : Bool} {ah al zh zl ch cl : Int} {a z : Nat} (hA : IsNum ah al a) (hz : IsNum zh zl z) (h1 : okA v a = true) (h2 : okA u z = true) (h3 : ¬ v = u) (w : World) (hL : LW w)
    (aw : ∀ w, LW w → Calls Tryz.prog 29 #[] w fun e w' => e = .returned (.bool true) ∧ Below w.heap.size w w') :
    Calls Tryz.prog 10 #[av v ah al, av u zh zl, av s ch cl] w fun e w' => e = .returned (.bool true) ∧ Below w.heap.size w w' := by
  have hsz := hL.sz
  have K := cspr_start w v ah al u zh zl s ch cl
  have AW : Hid (Calls Tryz.prog 29 #[] _ _) := aw _ (hL.of K.bel hsz)
  have S1 : Hid (∀ w', Calls Tryz.prog 45 #[av v ah al, av u zh zl] w' fun e w1 => e = .returned (.tuple #[.slice none 0 0, .int .i64 1]) ∧ Below w'.heap.size w' w1) := fun w' => spread_no hA hz (fun q => h3 q.2.2.1) w'
  have R1 : Hid (∀ w', Calls Tryz.prog 14 #[av v ah al] w' fun e w1 => e = .returned (.bool true) ∧ Below w'.heap.size w' w1) := fun w' => h1 ▸ aright_c hA w'
  have Q1 : Hid (∀ w', Calls Tryz.prog 14 #[av u zh zl] w' fun e w1 => e = .returned (.bool true) ∧ Below w'.heap.size w' w1) := fun w' => h2 ▸ aright_c hz w'
  have M1 : Hid (True) := trivial
  clear hL aw hA hz
  (cases v <;> cases u <;> simp at h3)
  all_goals
    go_enter Tryz.func10, Tryz.ntmps10
    go_wp2_with fail
    refine AW.out.mono ?_
    rintro e w1 ⟨rfl, hb⟩
    replace K := K.below hb
    have F := K.1
    simp only [Facts, CellsAt] at F
    clear hb AW
    go_wp2_with fail
    refine (S1.out _).mono ?_
    rintro e w2 ⟨rfl, hb⟩
    replace K := K.below hb
    replace F := K.1
    simp only [Facts, CellsAt] at F
    clear hb S1
    go_wp2_with fail
    refine (R1.out _).mono ?_
    rintro e w3 ⟨rfl, hb⟩
    replace K := K.below hb
    replace F := K.1
    simp only [Facts, CellsAt] at F
    clear hb R1
    (go_wp2_with fail; refine (Q1.out _).mono ?_; rintro e w4 ⟨rfl, hb⟩; replace K := K.below hb; replace F := K.1; simp only [Facts, CellsAt] at F; clear hb)
    have B := K.bel
    clear K Q1 M1
    go_wp2
    go_ret
    exact ⟨by first | rfl | simp, B⟩

set_option maxRecDepth 100000 in
set_option maxHeartbeats 1600000 in
theorem spr_no_d {v u s : Bool} {ah al zh zl ch cl : Int} {a z : Nat} (hA : IsNum ah al a) (hz : IsNum zh zl z) (h1 : okA v a = true) (h2 : okA u z = true) (h3 : v = u) (h4 : z < a) (w : World) (hL : LW w)
    (aw : ∀ w, LW w → Calls Tryz.prog 29 #[] w fun e w' => e = .returned (.bool true) ∧ Below w.heap.size w w') :
    Calls Tryz.prog 10 #[av v ah al, av u zh zl, av s ch cl] w fun e w' => e = .returned (.bool true) ∧ Below w.heap.size w w' := by
  have hsz := hL.sz
  have K := cspr_start w v ah al u zh zl s ch cl
  have AW : Hid (Calls Tryz.prog 29 #[] _ _) := aw _ (hL.of K.bel hsz)
  have S1 : Hid (∀ w', Calls Tryz.prog 45 #[av v ah al, av u zh zl] w' fun e w1 => e = .returned (.tuple #[.slice none 0 0, .int .i64 1]) ∧ Below w'.heap.size w' w1) := fun w' => spread_no hA hz (fun q => by omega) w'
  have R1 : Hid (∀ w', Calls Tryz.prog 14 #[av v ah al] w' fun e w1 => e = .returned (.bool true) ∧ Below w'.heap.size w' w1) := fun w' => h1 ▸ aright_c hA w'
  have Q1 : Hid (∀ w', Calls Tryz.prog 14 #[av u zh zl] w' fun e w1 => e = .returned (.bool true) ∧ Below w'.heap.size w' w1) := fun w' => h2 ▸ aright_c hz w'
  have M1 : Hid (∀ w', Calls Tryz.prog 15 #[av v ah al, av u zh zl] w' fun e w1 => ∃ m : Int, e = .returned (.int .i64 m) ∧ 0 < m ∧ Below w'.heap.size w' w1) := fun w' => spr_gt hA hz h3 h4 w'
  clear hL aw hA hz
  (subst h3)
  all_goals
    go_enter Tryz.func10, Tryz.ntmps10
    go_wp2_with fail
    refine AW.out.mono ?_
    rintro e w1 ⟨rfl, hb⟩
    replace K := K.below hb
    have F := K.1
    simp only [Facts, CellsAt] at F
    clear hb AW
    go_wp2_with fail
    refine (S1.out _).mono ?_
    rintro e w2 ⟨rfl, hb⟩
    replace K := K.below hb
    replace F := K.1
    simp only [Facts, CellsAt] at F
    clear hb S1
    go_wp2_with fail
    refine (R1.out _).mono ?_
    rintro e w3 ⟨rfl, hb⟩
    replace K := K.below hb
    replace F := K.1
    simp only [Facts, CellsAt] at F
    clear hb R1
    (go_wp2_with fail; refine (Q1.out _).mono ?_; rintro e w4 ⟨rfl, hb⟩; replace K := K.below hb; replace F := K.1; simp only [Facts, CellsAt] at F; clear hb; go_wp2_with fail; refine (M1.out _).mono ?_; rintro e w5 ⟨m, rfl, hm, hb⟩; replace K := K.below hb; replace F := K.1; simp only [Facts, CellsAt] at F; clear hb)
    have B := K.bel
    clear K Q1 M1
    go_wp2
    go_ret
    exact ⟨by first | rfl | simp, B⟩

theorem spr_no {v u s : Bool} {ah al zh zl ch cl : Int} {a z : Nat} (hA : IsNum ah al a) (hz : IsNum zh zl z) (hc : ¬ (okA v a = true ∧ okA u z = true ∧ v = u ∧ a ≤ z)) (w : World) (hL : LW w)
    (aw : ∀ w, LW w → Calls Tryz.prog 29 #[] w fun e w' => e = .returned (.bool true) ∧ Below w.heap.size w w') :
    Calls Tryz.prog 10 #[av v ah al, av u zh zl, av s ch cl] w fun e w' => e = .returned (.bool true) ∧ Below w.heap.size w w' := by
  cases h1 : okA v a
  · exact spr_no_a hA hz h1 w hL aw
  · cases h2 : okA u z
    · exact spr_no_b hA hz h1 h2 w hL aw
    · by_cases h3 : v = u
      · exact spr_no_d hA hz h1 h2 h3 (by
          have : ¬ a ≤ z := fun q => hc ⟨h1, h2, h3, q⟩
          omega) w hL aw
      · exact spr_no_c hA hz h1 h2 h3 w hL aw
end Go.Proofs.YtmhnfgfdggjdhaaGreatDoor

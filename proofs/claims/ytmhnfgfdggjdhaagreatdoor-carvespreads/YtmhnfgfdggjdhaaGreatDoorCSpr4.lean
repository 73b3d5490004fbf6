/-
  The walk of CarveSpreads.
-/
import Derived.Test.YtmhnfgfdggjdhaaGreatDoorCSpr3
import Derived.Deep.DeepCutAuto
namespace Go.Proofs.YtmhnfgfdggjdhaaGreatDoor
open Go.ChangeShapes Go.WideShapes Go.ChangeAt Go.RowKit
set_option linter.unusedVariables false
set_option linter.unusedSimpArgs false

set_option maxRecDepth 100000 in
set_option maxHeartbeats 6400000 in
theorem spr_loop {v s : Bool} {ah al zh zl ch cl b0 fh fl fb WI M m : Int} {a c z n : Nat} {xs : List Value} {st : Nat → Nat} (n0 : 0 < n) (hMn : M = (n : Int) - 1) (hn2 : ¬ 2 * WI < (n : Int)) (hWI : WI = 32 ∨ WI = 128) (hm : ¬ 0 < m) (n256 : n ≤ 256)
    (X0 : X4 xs 0 (.bool v) (.int .u64 ah) (.int .u64 al) (.int .i64 b0)) (XM : X4 xs (M.toNat * 4) (.bool v) (.int .u64 fh) (.int .u64 fl) (.int .i64 fb))
    (S1 : Hid (∀ w', Calls Tryz.prog 45 #[av v ah al, av v zh zl] w' fun e w1 => ∃ g cap, e = .returned (.tuple #[.slice (some ⟨g, 0, none⟩) n cap, .int .i64 0]) ∧ Rows4 w1 g xs ∧ Below w'.heap.size w' w1))
    (R1 : Hid (∀ w', Calls Tryz.prog 14 #[av v ah al] w' fun e w1 => e = .returned (.bool true) ∧ Below w'.heap.size w' w1)) (R2 : Hid (∀ w', Calls Tryz.prog 14 #[av v zh zl] w' fun e w1 => e = .returned (.bool true) ∧ Below w'.heap.size w' w1)) (CM : Hid (∀ w', Calls Tryz.prog 15 #[av v ah al, av v zh zl] w' fun e w1 => e = .returned (.int .i64 m) ∧ Below w'.heap.size w' w1)) (CW : Hid (∀ w', Calls Tryz.prog 19 #[av v ah al] w' fun e w1 => e = .returned (.int .i64 WI) ∧ Below w'.heap.size w' w1)) (FA : Hid (∀ w', Calls Tryz.prog 16 #[pv v ah al b0] w' fun e w1 => e = .returned (av v ah al) ∧ Below w'.heap.size w' w1)) (LZ : Hid (∀ w', Calls Tryz.prog 17 #[pv v fh fl fb] w' fun e w1 => e = .returned (av v zh zl) ∧ Below w'.heap.size w' w1))
    (BU : Hid (∀ j : Nat, j < n → ∃ (eh el eb : Int) (hb : Bool), X4 xs (j * 4) (.bool v) (.int .u64 eh) (.int .u64 el) (.int .i64 eb) ∧ Hid (∀ w', Calls Tryz.prog 13 #[pv v eh el eb] w' fun e w1 => e = .returned (.bool true) ∧ Below w'.heap.size w' w1) ∧ Hid (∀ w', Calls Tryz.prog 18 #[pv v eh el eb, av s ch cl] w' fun e w1 => e = .returned (.bool hb) ∧ Below w'.heap.size w' w1) ∧ Hid (∀ w', Calls Tryz.prog 16 #[pv v eh el eb] w' fun e w1 => e = .returned (av v eh el) ∧ Below w'.heap.size w' w1) ∧ hereI v s a c (st (j + 1)) = hereI v s a c (st j) + (if hb then 1 else 0) ∧ (j = 0 → eh = ah ∧ el = al) ∧ (j + 1 = n → Hid (∀ w', Calls Tryz.prog 17 #[pv v eh el eb] w' fun e w1 => e = .returned (av v zh zl) ∧ Below w'.heap.size w' w1)) ∧ (1 ≤ j → ∃ ph pl pb lh ll : Int, X4 xs ((j - 1) * 4) (.bool v) (.int .u64 ph) (.int .u64 pl) (.int .i64 pb) ∧ Hid (∀ w', Calls Tryz.prog 17 #[pv v ph pl pb] w' fun e w1 => e = .returned (av v lh ll) ∧ Below w'.heap.size w' w1) ∧ Hid (∀ w', Calls Tryz.prog 46 #[av v lh ll, nv 0 1] w' fun e w1 => e = .returned (.tuple #[av v eh el, .int .i64 0]) ∧ Below w'.heap.size w' w1) ∧ (eb = pb → -1000 ≤ eb ∧ eb ≤ 1000 ∧ ∃ uh ul rh rl : Int, Hid (∀ w', Calls Tryz.prog 48 #[av v eh el, .int .i64 (eb - 1)] w' fun e w1 => e = .returned (.tuple #[pv v uh ul (eb - 1), .int .i64 0]) ∧ Below w'.heap.size w' w1) ∧ Hid (∀ w', Calls Tryz.prog 12 #[pv v uh ul (eb - 1)] w' fun e w1 => e = .returned (.tuple #[pv v uh ul eb, pv v rh rl eb, .int .i64 0]) ∧ Below w'.heap.size w' w1) ∧ Hid (¬ uh = ph ∨ (uh = ph ∧ ¬ ul = pl)))))) (h0 : Hid (hereI v s a c (st 0) = 0))
    {ri : Bool} {m1 m2 : Int} (RC : Hid (∀ w', Calls Tryz.prog 14 #[av s ch cl] w' fun e w1 => e = .returned (.bool ri) ∧ Below w'.heap.size w' w1)) (C1 : Hid (∀ w', Calls Tryz.prog 15 #[av v ah al, av s ch cl] w' fun e w1 => e = .returned (.int .i64 m1) ∧ Below w'.heap.size w' w1)) (C2 : Hid (∀ w', Calls Tryz.prog 15 #[av s ch cl, av v zh zl] w' fun e w1 => e = .returned (.int .i64 m2) ∧ Below w'.heap.size w' w1)) (hin : Hid ((ri = true ∧ m1 ≤ 0 ∧ m2 ≤ 0) ↔ hereI v s a c (st n) = 1))
    (w : World) (hL : LW w)
    (aw : ∀ w, LW w → Calls Tryz.prog 29 #[] w fun e w' => e = .returned (.bool true) ∧ Below w.heap.size w w') :
    Calls Tryz.prog 10 #[av v ah al, av v zh zl, av s ch cl] w fun e w' => e = .returned (.bool true) ∧ Below w.heap.size w w' := by
  have hsz := hL.sz
  have K := cspr_start w v ah al v zh zl s ch cl
  have AW : Hid (Calls Tryz.prog 29 #[] _ _) := aw _ (hL.of K.bel hsz)
  have hw1 : IntKind.i64.wrap ((n : Int) - 1) = M := by rw [hMn]; simp [IntKind.wrap, IntKind.bits, IntKind.signed]; omega
  have hw2 : IntKind.i64.wrap (2 * WI) = 2 * WI := by simp [IntKind.wrap, IntKind.bits, IntKind.signed]; omega
  have M0 : 0 ≤ M := by omega
  have M1 : M < (n : Int) := by omega
  have nI : 0 < (n : Int) := by omega
  have n9 : ¬ n = 0 := by omega
  have n256H : Hid (n ≤ 256) := n256
  clear hL aw hMn hWI n256
  go_enter Tryz.func10, Tryz.ntmps10
  go_wp2_with fail
  refine AW.out.mono ?_
  rintro e w1 ⟨rfl, hb⟩
  replace K := K.below hb
  have F := K.1
  simp only [Facts, CellsAt] at F
  clear hb AW
  go_wp2_with fail
  refine (S1.out _).mono ?_
  rintro e w2 ⟨g, cap, rfl, hR, hb⟩
  replace K := K.below hb
  replace F := K.1
  simp only [Facts, CellsAt] at F
  clear hb S1
  go_wp2_with fail
  refine (R1.out _).mono ?_
  rintro e w3 ⟨rfl, hb⟩
  replace K := K.below hb
  replace hR := hR.below hb
  replace F := K.1
  simp only [Facts, CellsAt] at F
  clear hb R1
  go_wp2_with fail
  refine (R2.out _).mono ?_
  rintro e w4 ⟨rfl, hb⟩
  replace K := K.below hb
  replace hR := hR.below hb
  replace F := K.1
  simp only [Facts, CellsAt] at F
  clear hb R2
  go_wp2_with fail
  refine (CM.out _).mono ?_
  rintro e w5 ⟨rfl, hb⟩
  replace K := K.below hb
  replace hR := hR.below hb
  replace F := K.1
  simp only [Facts, CellsAt] at F
  clear hb CM
  have S0 := SQ.of K hR X0 XM
  clear K hR F
  go_wp2_with fail
  refine wp_region_held_drew (S := (SQ w [(w.heap.size + 1 + 1, [.bool s, .int .u64 ch, .int .u64 cl], 26), (w.heap.size + 1, [.bool v, .int .u64 zh, .int .u64 zl], 26), (w.heap.size, [.bool v, .int .u64 ah, .int .u64 al], 26)] g xs 0 (M.toNat * 4) (.bool v) (.int .u64 ah) (.int .u64 al) (.int .i64 b0) (.bool v) (.int .u64 fh) (.int .u64 fl) (.int .i64 fb))) (by kernel_rfl) ?hS100 (fun hHeld => ?rest100)
  case hS100 => (first | with_reducible exact S0.drew | with_reducible exact hHeld.below hb6 | with_reducible exact hHeld.below hb7 | with_reducible exact hHeld.below hb8)
  refine wpAnyH_take (i := 0) (oi := _) (v := ?v101) (List.getElem?_toArray.trans rfl) (by kernel_rfl) (by kernel_rfl) (by kernel_rfl) (fun _ _ _ h => h) (Or.inl ⟨by rfl, ?hy101⟩) (by assumption) ?rest101
  case hy101 => (intro wq hSw; (try simp only [Two, SQ, Facts, CellsAt, C4] at hSw); go_simp; try with_reducible rfl)
  try simp only [Act.put, List.setIfInBounds_toArray, List.set_cons_zero, List.set_cons_succ]
  refine wpAnyH_take (i := 1) (oi := _) (v := (Value.bool false)) (List.getElem?_toArray.trans rfl) (by kernel_rfl) (by kernel_rfl) (by kernel_rfl) (fun _ _ _ h => h) (Or.inl ⟨by rfl, ?hy102⟩) (by assumption) ?rest102
  case hy102 => (intro wq hSw; (try simp only [Two, SQ, Facts, CellsAt, C4] at hSw); go_simp; (all_goals (first | rfl | (simp; done) | (simp; omega))))
  try simp only [Act.put, List.setIfInBounds_toArray, List.set_cons_zero, List.set_cons_succ]
  refine wpAnyH_take (i := 2) (oi := _) (v := ?v103) (List.getElem?_toArray.trans rfl) (by kernel_rfl) (by kernel_rfl) (by kernel_rfl) (fun _ _ _ h => h) (Or.inl ⟨by rfl, ?hy103⟩) (by assumption) ?rest103
  case hy103 => (intro wq hSw; (try simp only [Two, SQ, Facts, CellsAt, C4] at hSw); go_simp; try with_reducible rfl)
  try simp only [Act.put, List.setIfInBounds_toArray, List.set_cons_zero, List.set_cons_succ]
  refine wpAnyH_take (i := 3) (oi := _) (v := ?v104) (List.getElem?_toArray.trans rfl) (by kernel_rfl) (by kernel_rfl) (by kernel_rfl) (fun _ _ _ h => h) (Or.inl ⟨by rfl, ?hy104⟩) (by assumption) ?rest104
  case hy104 => (intro wq hSw; (try simp only [Two, SQ, Facts, CellsAt, C4] at hSw); go_simp; try with_reducible rfl)
  try simp only [Act.put, List.setIfInBounds_toArray, List.set_cons_zero, List.set_cons_succ]
  refine wpAnyH_take (i := 4) (oi := _) (v := ?v105) (List.getElem?_toArray.trans rfl) (by kernel_rfl) (by kernel_rfl) (by kernel_rfl) (fun _ _ _ h => h) (Or.inl ⟨by rfl, ?hy105⟩) (by assumption) ?rest105
  case hy105 => (intro wq hSw; (try simp only [Two, SQ, Facts, CellsAt, C4] at hSw); go_simp; try with_reducible rfl)
  try simp only [Act.put, List.setIfInBounds_toArray, List.set_cons_zero, List.set_cons_succ]
  refine wpAnyH_take (i := 5) (oi := _) (v := (Value.bool false)) (List.getElem?_toArray.trans rfl) (by kernel_rfl) (by kernel_rfl) (by kernel_rfl) (fun _ _ _ h => h) (Or.inl ⟨by rfl, ?hy106⟩) (by assumption) ?rest106
  case hy106 => (intro wq hSw; (try simp only [Two, SQ, Facts, CellsAt, C4] at hSw); go_simp; (all_goals (first | rfl | (simp; done) | (simp; omega))))
  try simp only [Act.put, List.setIfInBounds_toArray, List.set_cons_zero, List.set_cons_succ]
  refine wpAnyH_take (i := 6) (oi := _) (v := ?v107) (List.getElem?_toArray.trans rfl) (by kernel_rfl) (by kernel_rfl) (by kernel_rfl) (fun _ _ _ h => h) (Or.inl ⟨by rfl, ?hy107⟩) (by assumption) ?rest107
  case hy107 => (intro wq hSw; (try simp only [Two, SQ, Facts, CellsAt, C4] at hSw); go_simp; try with_reducible rfl)
  try simp only [Act.put, List.setIfInBounds_toArray, List.set_cons_zero, List.set_cons_succ]
  refine wpAnyH_take (i := 7) (oi := _) (v := ?v108) (List.getElem?_toArray.trans rfl) (by kernel_rfl) (by kernel_rfl) (by kernel_rfl) (fun _ _ _ h => h) (Or.inl ⟨by rfl, ?hy108⟩) (by assumption) ?rest108
  case hy108 => (intro wq hSw; (try simp only [Two, SQ, Facts, CellsAt, C4] at hSw); go_simp; try with_reducible rfl)
  try simp only [Act.put, List.setIfInBounds_toArray, List.set_cons_zero, List.set_cons_succ]
  refine wpAnyH_take (i := 8) (oi := _) (v := ?v109) (List.getElem?_toArray.trans rfl) (by kernel_rfl) (by kernel_rfl) (by kernel_rfl) (fun _ _ _ h => h) (Or.inl ⟨by rfl, ?hy109⟩) (by assumption) ?rest109
  case hy109 => (intro wq hSw; (try simp only [Two, SQ, Facts, CellsAt, C4] at hSw); go_simp; try with_reducible rfl)
  try simp only [Act.put, List.setIfInBounds_toArray, List.set_cons_zero, List.set_cons_succ]
  refine wpAnyH_take (i := 9) (oi := _) (v := ?v110) (List.getElem?_toArray.trans rfl) (by kernel_rfl) (by kernel_rfl) (by kernel_rfl) (fun _ _ _ h => h) (Or.inl ⟨by rfl, ?hy110⟩) (by assumption) ?rest110
  case hy110 => (intro wq hSw; (try simp only [Two, SQ, Facts, CellsAt, C4] at hSw); go_simp; try with_reducible rfl)
  try simp only [Act.put, List.setIfInBounds_toArray, List.set_cons_zero, List.set_cons_succ]
  refine wpAnyH_take (i := 10) (oi := _) (v := ?v111) (List.getElem?_toArray.trans rfl) (by kernel_rfl) (by kernel_rfl) (by kernel_rfl) (fun _ _ _ h => h) (Or.inl ⟨by rfl, ?hy111⟩) (by assumption) ?rest111
  case hy111 => (intro wq hSw; (try simp only [Two, SQ, Facts, CellsAt, C4] at hSw); go_simp; try with_reducible rfl)
  try simp only [Act.put, List.setIfInBounds_toArray, List.set_cons_zero, List.set_cons_succ]
  refine wpAnyH_ready (rs := [11]) (by kernel_rfl) (by simp) ?rdy112
  refine AllReadyH.cons (List.getElem?_toArray.trans rfl) (fun K hK => ?stp112) AllReadyH.nil
  go_simp
  go_wp2_with fail
  (refine (CW.out _).mono ?_; rintro e w6 ⟨rfl, hb6⟩)
  go_wp2_with fail
  refine hK.out _ _ ?hSn112 (fun hHeld2 => ?rest112)
  case hSn112 => (first | with_reducible exact S0.drew | with_reducible exact hHeld.below hb6 | with_reducible exact hHeld.below hb7 | with_reducible exact hHeld.below hb8)
  clear hK K hHeld
  have hHeld := hHeld2
  clear hHeld2
  try simp only [Act.put, List.setIfInBounds_toArray, List.set_cons_zero, List.set_cons_succ]
  refine wpAnyH_take (i := 12) (oi := _) (v := ?v113) (List.getElem?_toArray.trans rfl) (by kernel_rfl) (by kernel_rfl) (by kernel_rfl) (fun _ _ _ h => h) (Or.inl ⟨by rfl, ?hy113⟩) (by assumption) ?rest113
  case hy113 => (intro wq hSw; (try simp only [Two, SQ, Facts, CellsAt, C4] at hSw); go_simp; try with_reducible rfl)
  try simp only [Act.put, List.setIfInBounds_toArray, List.set_cons_zero, List.set_cons_succ]
  refine wpAnyH_take (i := 13) (oi := _) (v := (Value.bool false)) (List.getElem?_toArray.trans rfl) (by kernel_rfl) (by kernel_rfl) (by kernel_rfl) (fun _ _ _ h => h) (Or.inl ⟨by rfl, ?hy114⟩) (by assumption) ?rest114
  case hy114 => (intro wq hSw; (try simp only [Two, SQ, Facts, CellsAt, C4] at hSw); go_simp; (all_goals (first | rfl | (simp; done) | (simp; omega))))
  try simp only [Act.put, List.setIfInBounds_toArray, List.set_cons_zero, List.set_cons_succ]
  refine wpAnyH_take (i := 14) (oi := _) (v := ?v115) (List.getElem?_toArray.trans rfl) (by kernel_rfl) (by kernel_rfl) (by kernel_rfl) (fun _ _ _ h => h) (Or.inl ⟨by rfl, ?hy115⟩) (by assumption) ?rest115
  case hy115 => (intro wq hSw; (try simp only [Two, SQ, Facts, CellsAt, C4] at hSw); go_simp; try with_reducible rfl)
  try simp only [Act.put, List.setIfInBounds_toArray, List.set_cons_zero, List.set_cons_succ]
  refine wpAnyH_take (i := 15) (oi := _) (v := ?v116) (List.getElem?_toArray.trans rfl) (by kernel_rfl) (by kernel_rfl) (by kernel_rfl) (fun _ _ _ h => h) (Or.inl ⟨by rfl, ?hy116⟩) (by assumption) ?rest116
  case hy116 => (intro wq hSw; (try simp only [Two, SQ, Facts, CellsAt, C4] at hSw); go_simp; try with_reducible rfl)
  try simp only [Act.put, List.setIfInBounds_toArray, List.set_cons_zero, List.set_cons_succ]
  refine wpAnyH_take (i := 16) (oi := _) (v := ?v117) (List.getElem?_toArray.trans rfl) (by kernel_rfl) (by kernel_rfl) (by kernel_rfl) (fun _ _ _ h => h) (Or.inl ⟨by rfl, ?hy117⟩) (by assumption) ?rest117
  case hy117 => (intro wq hSw; (try simp only [Two, SQ, Facts, CellsAt, C4] at hSw); go_simp; try with_reducible rfl)
  try simp only [Act.put, List.setIfInBounds_toArray, List.set_cons_zero, List.set_cons_succ]
  refine wpAnyH_take (i := 17) (oi := _) (v := ?v118) (List.getElem?_toArray.trans rfl) (by kernel_rfl) (by kernel_rfl) (by kernel_rfl) (fun _ _ _ h => h) (Or.inl ⟨by rfl, ?hy118⟩) (by assumption) ?rest118
  case hy118 => (intro wq hSw; (try simp only [Two, SQ, Facts, CellsAt, C4] at hSw); go_simp; try with_reducible rfl)
  try simp only [Act.put, List.setIfInBounds_toArray, List.set_cons_zero, List.set_cons_succ]
  refine wpAnyH_take (i := 18) (oi := _) (v := ?v119) (List.getElem?_toArray.trans rfl) (by kernel_rfl) (by kernel_rfl) (by kernel_rfl) (fun _ _ _ h => h) (Or.inl ⟨by rfl, ?hy119⟩) (by assumption) ?rest119
  case hy119 => (intro wq hSw; (try simp only [Two, SQ, Facts, CellsAt, C4] at hSw); go_simp; try with_reducible rfl)
  try simp only [Act.put, List.setIfInBounds_toArray, List.set_cons_zero, List.set_cons_succ]
  refine wpAnyH_take (i := 20) (oi := _) (v := ?v120) (List.getElem?_toArray.trans rfl) (by kernel_rfl) (by kernel_rfl) (by kernel_rfl) (fun _ _ _ h => h) (Or.inl ⟨by rfl, ?hy120⟩) (by assumption) ?rest120
  case hy120 => (intro wq hSw; (try simp only [Two, SQ, Facts, CellsAt, C4] at hSw); go_simp; try with_reducible rfl)
  try simp only [Act.put, List.setIfInBounds_toArray, List.set_cons_zero, List.set_cons_succ]
  refine wpAnyH_ready (rs := [19]) (by kernel_rfl) (by simp) ?rdy121
  refine AllReadyH.cons (List.getElem?_toArray.trans rfl) (fun K hK => ?stp121) AllReadyH.nil
  go_simp
  go_wp2_with fail
  (refine (FA.out _).mono ?_; rintro e w7 ⟨rfl, hb7⟩)
  go_wp2_with fail
  refine hK.out _ _ ?hSn121 (fun hHeld2 => ?rest121)
  case hSn121 => (first | with_reducible exact S0.drew | with_reducible exact hHeld.below hb6 | with_reducible exact hHeld.below hb7 | with_reducible exact hHeld.below hb8)
  clear hK K hHeld
  have hHeld := hHeld2
  clear hHeld2
  try simp only [Act.put, List.setIfInBounds_toArray, List.set_cons_zero, List.set_cons_succ]
  refine wpAnyH_take (i := 21) (oi := _) (v := (Value.bool false)) (List.getElem?_toArray.trans rfl) (by kernel_rfl) (by kernel_rfl) (by kernel_rfl) (fun _ _ _ h => h) (Or.inl ⟨by rfl, ?hy122⟩) (by assumption) ?rest122
  case hy122 => (intro wq hSw; (try simp only [Two, SQ, Facts, CellsAt, C4] at hSw); go_simp; (all_goals (first | rfl | (simp; done) | (simp; omega))))
  try simp only [Act.put, List.setIfInBounds_toArray, List.set_cons_zero, List.set_cons_succ]
  refine wpAnyH_take (i := 22) (oi := _) (v := ?v123) (List.getElem?_toArray.trans rfl) (by kernel_rfl) (by kernel_rfl) (by kernel_rfl) (fun _ _ _ h => h) (Or.inl ⟨by rfl, ?hy123⟩) (by assumption) ?rest123
  case hy123 => (intro wq hSw; (try simp only [Two, SQ, Facts, CellsAt, C4] at hSw); go_simp; try with_reducible rfl)
  try simp only [Act.put, List.setIfInBounds_toArray, List.set_cons_zero, List.set_cons_succ]
  refine wpAnyH_take (i := 23) (oi := _) (v := ?v124) (List.getElem?_toArray.trans rfl) (by kernel_rfl) (by kernel_rfl) (by kernel_rfl) (fun _ _ _ h => h) (Or.inl ⟨by rfl, ?hy124⟩) (by assumption) ?rest124
  case hy124 => (intro wq hSw; (try simp only [Two, SQ, Facts, CellsAt, C4] at hSw); go_simp; try with_reducible rfl)
  try simp only [Act.put, List.setIfInBounds_toArray, List.set_cons_zero, List.set_cons_succ]
  refine wpAnyH_take (i := 24) (oi := _) (v := ?v125) (List.getElem?_toArray.trans rfl) (by kernel_rfl) (by kernel_rfl) (by kernel_rfl) (fun _ _ _ h => h) (Or.inl ⟨by rfl, ?hy125⟩) (by assumption) ?rest125
  case hy125 => (intro wq hSw; (try simp only [Two, SQ, Facts, CellsAt, C4] at hSw); go_simp; try with_reducible rfl)
  try simp only [Act.put, List.setIfInBounds_toArray, List.set_cons_zero, List.set_cons_succ]
  refine wpAnyH_take (i := 25) (oi := _) (v := ?v126) (List.getElem?_toArray.trans rfl) (by kernel_rfl) (by kernel_rfl) (by kernel_rfl) (fun _ _ _ h => h) (Or.inl ⟨by rfl, ?hy126⟩) (by assumption) ?rest126
  case hy126 => (intro wq hSw; (try simp only [Two, SQ, Facts, CellsAt, C4] at hSw); go_simp; try with_reducible rfl)
  try simp only [Act.put, List.setIfInBounds_toArray, List.set_cons_zero, List.set_cons_succ]
  refine wpAnyH_take (i := 26) (oi := _) (v := ?v127) (List.getElem?_toArray.trans rfl) (by kernel_rfl) (by kernel_rfl) (by kernel_rfl) (fun _ _ _ h => h) (Or.inl ⟨by rfl, ?hy127⟩) (by assumption) ?rest127
  case hy127 => (intro wq hSw; (try simp only [Two, SQ, Facts, CellsAt, C4] at hSw); go_simp; try with_reducible rfl)
  try simp only [Act.put, List.setIfInBounds_toArray, List.set_cons_zero, List.set_cons_succ]
  refine wpAnyH_take (i := 27) (oi := _) (v := ?v128) (List.getElem?_toArray.trans rfl) (by kernel_rfl) (by kernel_rfl) (by kernel_rfl) (fun _ _ _ h => h) (Or.inl ⟨by rfl, ?hy128⟩) (by assumption) ?rest128
  case hy128 => (intro wq hSw; (try simp only [Two, SQ, Facts, CellsAt, C4] at hSw); go_simp; try with_reducible rfl)
  try simp only [Act.put, List.setIfInBounds_toArray, List.set_cons_zero, List.set_cons_succ]
  refine wpAnyH_take (i := 28) (oi := _) (v := ?v129) (List.getElem?_toArray.trans rfl) (by kernel_rfl) (by kernel_rfl) (by kernel_rfl) (fun _ _ _ h => h) (Or.inl ⟨by rfl, ?hy129⟩) (by assumption) ?rest129
  case hy129 => (intro wq hSw; (try simp only [Two, SQ, Facts, CellsAt, C4] at hSw); go_simp; try with_reducible rfl)
  try simp only [Act.put, List.setIfInBounds_toArray, List.set_cons_zero, List.set_cons_succ]
  refine wpAnyH_take (i := 29) (oi := _) (v := ?v130) (List.getElem?_toArray.trans rfl) (by kernel_rfl) (by kernel_rfl) (by kernel_rfl) (fun _ _ _ h => h) (Or.inl ⟨by rfl, ?hy130⟩) (by assumption) ?rest130
  case hy130 => (intro wq hSw; (try simp only [Two, SQ, Facts, CellsAt, C4] at hSw); go_simp; try with_reducible rfl)
  try simp only [Act.put, List.setIfInBounds_toArray, List.set_cons_zero, List.set_cons_succ]
  refine wpAnyH_take (i := 31) (oi := _) (v := ?v131) (List.getElem?_toArray.trans rfl) (by kernel_rfl) (by kernel_rfl) (by kernel_rfl) (fun _ _ _ h => h) (Or.inl ⟨by rfl, ?hy131⟩) (by assumption) ?rest131
  case hy131 => (intro wq hSw; (try simp only [Two, SQ, Facts, CellsAt, C4] at hSw); go_simp; try with_reducible rfl)
  try simp only [Act.put, List.setIfInBounds_toArray, List.set_cons_zero, List.set_cons_succ]
  refine wpAnyH_ready (rs := [30]) (by kernel_rfl) (by simp) ?rdy132
  refine AllReadyH.cons (List.getElem?_toArray.trans rfl) (fun K hK => ?stp132) AllReadyH.nil
  go_simp
  go_wp2_with fail
  (refine (LZ.out _).mono ?_; rintro e w8 ⟨rfl, hb8⟩)
  go_wp2_with fail
  refine hK.out _ _ ?hSn132 (fun hHeld2 => ?rest132)
  case hSn132 => (first | with_reducible exact S0.drew | with_reducible exact hHeld.below hb6 | with_reducible exact hHeld.below hb7 | with_reducible exact hHeld.below hb8)
  clear hK K hHeld
  have hHeld := hHeld2
  clear hHeld2
  try simp only [Act.put, List.setIfInBounds_toArray, List.set_cons_zero, List.set_cons_succ]
  refine wpAnyH_take (i := 32) (oi := _) (v := (Value.bool false)) (List.getElem?_toArray.trans rfl) (by kernel_rfl) (by kernel_rfl) (by kernel_rfl) (fun _ _ _ h => h) (Or.inl ⟨by rfl, ?hy133⟩) (by assumption) ?rest133
  case hy133 => (intro wq hSw; (try simp only [Two, SQ, Facts, CellsAt, C4] at hSw); go_simp; (all_goals (first | rfl | (simp; done) | (simp; omega))))
  try simp only [Act.put, List.setIfInBounds_toArray, List.set_cons_zero, List.set_cons_succ]
  refine wpAnyH_take (i := 33) (oi := _) (v := ?v134) (List.getElem?_toArray.trans rfl) (by kernel_rfl) (by kernel_rfl) (by kernel_rfl) (fun _ _ _ h => h) (Or.inl ⟨by rfl, ?hy134⟩) (by assumption) ?rest134
  case hy134 => (intro wq hSw; (try simp only [Two, SQ, Facts, CellsAt, C4] at hSw); go_simp; try with_reducible rfl)
  try simp only [Act.put, List.setIfInBounds_toArray, List.set_cons_zero, List.set_cons_succ]
  refine wpAnyH_done (by kernel_rfl) ?fin100 _
  have K := hHeld.2.1
  have hR := hHeld.2.2.1
  clear hHeld S0 hb6 hb7 hb8 X0 XM CW FA LZ hw1 hw2 hn2 hm M0 M1 n9
  go_wp2_with fail
  go_loopw [9, 10] (fun hv iv wr => ∃ (j : Nat) (J H : Int), hv = .int .i64 H ∧ iv = .int .i64 J ∧ Hid (J = (j : Int) ∧ H = hereI v s a c (st j)) ∧ 0 ≤ J ∧ J ≤ (n : Int) ∧ 0 ≤ H ∧ H ≤ 1 ∧ Kn w [(w.heap.size + 1 + 1, [.bool s, .int .u64 ch, .int .u64 cl], 26), (w.heap.size + 1, [.bool v, .int .u64 zh, .int .u64 zl], 26), (w.heap.size, [.bool v, .int .u64 ah, .int .u64 al], 26)] wr ∧ Rows4 wr g xs) (fun _ i _ => ((n : Int) - intOf i).toNat)
  case atStart => exact ⟨0, 0, 0, rfl, rfl, ⟨by simp, h0.out.symm⟩, by omega, by omega, by omega, by omega, K, hR⟩
  case round =>
    clear K hR
    obtain ⟨j, J, H, rfl, rfl, HJ, J0, J1, H0, H1, K, hR⟩ := hrel
    have F := K.1
    simp only [Facts, CellsAt] at F
    by_cases hlt : J < (n : Int)
    · obtain ⟨eh, el, eb, hb, x4, RR, HA, FI, hnx, _, _, hpr⟩ := BU.out j (by have := HJ.out.1; omega)
      have hjn : j = J.toNat := by have := HJ.out.1; omega
      rw [hjn] at x4
      obtain ⟨c0, c1, c2, c3⟩ := C4.of hR x4
      obtain ⟨H', hH'⟩ : ∃ H' : Int, H' = H + (if hb then 1 else 0) := ⟨_, rfl⟩
      have HN : Hid (H' = hereI v s a c (st (j + 1))) := by show _ = _; rw [hnx, hH', HJ.out.2]
      have HPR : Hid _ := hpr
      have H'1 : 0 ≤ H' ∧ H' ≤ 1 := by rw [HN.out]; exact hereI_01 _ _ _ _ _
      have HH' : Hid (H' = H + (if hb then 1 else 0)) := hH'
      have J9 : J ≤ 256 := by have := n256H.out; omega
      clear hnx hpr hjn hH'
      go_wp2_with fail
      refine (RR.out _).mono ?_
      rintro e w4 ⟨rfl, hb4⟩
      have S4 := (SQ.of K hR x4 x4).below hb4
      clear RR hb4 K hR F c0 c1 c2 c3
      go_wp2_with fail
      refine wp_region_held_drew (S := (SQ w [(w.heap.size + 1 + 1, [.bool s, .int .u64 ch, .int .u64 cl], 26), (w.heap.size + 1, [.bool v, .int .u64 zh, .int .u64 zl], 26), (w.heap.size, [.bool v, .int .u64 ah, .int .u64 al], 26)] g xs (J.toNat * 4) (J.toNat * 4) (.bool v) (.int .u64 eh) (.int .u64 el) (.int .i64 eb) (.bool v) (.int .u64 eh) (.int .u64 el) (.int .i64 eb))) (by kernel_rfl) ?hS200 (fun hHeld => ?rest200)
      case hS200 => (first | with_reducible exact S4.drew | with_reducible exact hHeld.below hb5)
      refine wpAnyH_take (i := 0) (oi := _) (v := ?v201) (List.getElem?_toArray.trans rfl) (by kernel_rfl) (by kernel_rfl) (by kernel_rfl) (fun _ _ _ h => h) (Or.inl ⟨by rfl, ?hy201⟩) (by assumption) ?rest201
      case hy201 => (intro wq hSw; (try simp only [Two, SQ, Facts, CellsAt, C4] at hSw); go_simp; try with_reducible rfl)
      try simp only [Act.put, List.setIfInBounds_toArray, List.set_cons_zero, List.set_cons_succ]
      refine wpAnyH_take (i := 1) (oi := _) (v := ?v202) (List.getElem?_toArray.trans rfl) (by kernel_rfl) (by kernel_rfl) (by kernel_rfl) (fun _ _ _ h => h) (Or.inl ⟨by rfl, ?hy202⟩) (by assumption) ?rest202
      case hy202 => (intro wq hSw; (try simp only [Two, SQ, Facts, CellsAt, C4] at hSw); go_simp; try with_reducible rfl)
      try simp only [Act.put, List.setIfInBounds_toArray, List.set_cons_zero, List.set_cons_succ]
      refine wpAnyH_take (i := 2) (oi := _) (v := ?v203) (List.getElem?_toArray.trans rfl) (by kernel_rfl) (by kernel_rfl) (by kernel_rfl) (fun _ _ _ h => h) (Or.inl ⟨by rfl, ?hy203⟩) (by assumption) ?rest203
      case hy203 => (intro wq hSw; (try simp only [Two, SQ, Facts, CellsAt, C4] at hSw); go_simp; try with_reducible rfl)
      try simp only [Act.put, List.setIfInBounds_toArray, List.set_cons_zero, List.set_cons_succ]
      refine wpAnyH_take (i := 3) (oi := _) (v := ?v204) (List.getElem?_toArray.trans rfl) (by kernel_rfl) (by kernel_rfl) (by kernel_rfl) (fun _ _ _ h => h) (Or.inl ⟨by rfl, ?hy204⟩) (by assumption) ?rest204
      case hy204 => (intro wq hSw; (try simp only [Two, SQ, Facts, CellsAt, C4] at hSw); go_simp; try with_reducible rfl)
      try simp only [Act.put, List.setIfInBounds_toArray, List.set_cons_zero, List.set_cons_succ]
      refine wpAnyH_take (i := 4) (oi := _) (v := ?v205) (List.getElem?_toArray.trans rfl) (by kernel_rfl) (by kernel_rfl) (by kernel_rfl) (fun _ _ _ h => h) (Or.inl ⟨by rfl, ?hy205⟩) (by assumption) ?rest205
      case hy205 => (intro wq hSw; (try simp only [Two, SQ, Facts, CellsAt, C4] at hSw); go_simp; try with_reducible rfl)
      try simp only [Act.put, List.setIfInBounds_toArray, List.set_cons_zero, List.set_cons_succ]
      refine wpAnyH_ready (rs := [5]) (by kernel_rfl) (by simp) ?rdy206
      refine AllReadyH.cons (List.getElem?_toArray.trans rfl) (fun K hK => ?stp206) AllReadyH.nil
      go_simp
      go_wp2_with fail
      (refine (HA.out _).mono ?_; rintro e w5 ⟨rfl, hb5⟩)
      go_wp2_with fail
      refine hK.out _ _ ?hSn206 (fun hHeld2 => ?rest206)
      case hSn206 => (first | with_reducible exact S4.drew | with_reducible exact hHeld.below hb5)
      clear hK K hHeld
      have hHeld := hHeld2
      clear hHeld2
      try simp only [Act.put, List.setIfInBounds_toArray, List.set_cons_zero, List.set_cons_succ]
      refine wpAnyH_done (by kernel_rfl) ?fin200 _
      have K := hHeld.2.1
      have hR := hHeld.2.2.1
      clear hHeld S4 hb5 HA
      go_upto_if 106 with fail
      go_cut [9] (fun q wc => q = .int .i64 H' ∧ Kn w [(w.heap.size + 1 + 1, [.bool s, .int .u64 ch, .int .u64 cl], 26), (w.heap.size + 1, [.bool v, .int .u64 zh, .int .u64 zl], 26), (w.heap.size, [.bool v, .int .u64 ah, .int .u64 al], 26)] wc ∧ Rows4 wc g xs)
      case first =>
        have hq := HH'.out
        have hwH : IntKind.i64.wrap (H + 1) = H + 1 := by simp [IntKind.wrap, IntKind.bits, IntKind.signed]; omega
        clear HH' HN HPR FI
        cases hb
        · obtain rfl : H' = H := by simpa using hq
          clear hq hwH
          go_wp2_with fail
          go_meet
          case rel => exact ⟨rfl, K, hR⟩
        · obtain rfl : H' = H + 1 := by simpa using hq
          clear hq
          go_wp2_with fail
          go_meet
          case rel => exact ⟨rfl, K, hR⟩
      case rest =>
        obtain ⟨rfl, K1, hR1⟩ := hcut
        clear K hR HH'
        have K := K1
        have hR := hR1
        clear K1 hR1
        have fin : ∀ wr : World, Kn w [(w.heap.size + 1 + 1, [.bool s, .int .u64 ch, .int .u64 cl], 26), (w.heap.size + 1, [.bool v, .int .u64 zh, .int .u64 zl], 26), (w.heap.size, [.bool v, .int .u64 ah, .int .u64 al], 26)] wr → Rows4 wr g xs → ∃ (j : Nat) (J' H : Int), Value.int .i64 H' = .int .i64 H ∧ Value.int .i64 (J + 1) = .int .i64 J' ∧ Hid (J' = (j : Int) ∧ H = hereI v s a c (st j)) ∧ 0 ≤ J' ∧ J' ≤ (n : Int) ∧ 0 ≤ H ∧ H ≤ 1 ∧ Kn w [(w.heap.size + 1 + 1, [.bool s, .int .u64 ch, .int .u64 cl], 26), (w.heap.size + 1, [.bool v, .int .u64 zh, .int .u64 zl], 26), (w.heap.size, [.bool v, .int .u64 ah, .int .u64 al], 26)] wr ∧ Rows4 wr g xs := fun wr k r => ⟨j + 1, J + 1, H', rfl, rfl, ⟨by have := HJ.out.1; omega, HN.out⟩, by omega, by omega, H'1.1, H'1.2, k, r⟩
        have FIN : Hid _ := fin
        clear fin HN
        by_cases hJ0 : J = 0
        · subst hJ0
          clear HPR FI
          go_wp2
          go_roundw
          case measure => simp [intOf]; omega
          case rel => exact FIN.out _ K hR
        · obtain ⟨ph, pl, pb, lh, ll, y4, LA, PL, hup⟩ := HPR.out (by have := HJ.out.1; omega)
          have hwJ : IntKind.i64.wrap (J - 1) = J - 1 := by simp [IntKind.wrap, IntKind.bits, IntKind.signed]; omega
          have hj1 : j - 1 = J.toNat - 1 := by have := HJ.out.1; omega
          rw [hj1] at y4
          have O1 : Hid (∀ w', Calls Tryz.prog 47 #[.int .u64 1] w' fun e w1 => e = .returned (nv 0 1) ∧ Below w'.heap.size w' w1) := fun w' => of_w 1 w'
          have HUP : Hid _ := hup
          have Jm0 : 0 ≤ J - 1 := by omega
          have Jp : 1 ≤ J := by omega
          have Jm1 : J - 1 < (n : Int) := by omega
          obtain ⟨c0, c1, c2, c3⟩ := C4.of hR y4
          clear HPR hj1 hup
          go_wp2_with fail
          refine (LA.out _).mono ?_
          rintro e w6 ⟨rfl, hb6⟩
          have K6 := K.below hb6
          have hR6 := hR.below hb6
          clear LA hb6 K hR c0 c1 c2 c3
          go_wp2_with fail
          refine (O1.out _).mono ?_
          rintro e w7 ⟨rfl, hb7⟩
          have K7 := K6.below hb7
          have hR7 := hR6.below hb7
          clear O1 hb7 K6 hR6
          go_wp2_with fail
          refine (PL.out _).mono ?_
          rintro e w8 ⟨rfl, hb8⟩
          have K8 := (K7.below hb8).push (b := w8.heap.size) (cs := [.bool v, .int .u64 eh, .int .u64 el]) (t := 26) (by simp)
          have S8 := SQ.of K8 ((hR7.below hb8).alloc _) x4 y4
          clear PL hb8 K7 hR7 K8
          go_wp2_with fail
          refine wp_region_held_drew (S := (SQ w [(w8.heap.size, [.bool v, .int .u64 eh, .int .u64 el], 26), (w.heap.size + 1 + 1, [.bool s, .int .u64 ch, .int .u64 cl], 26), (w.heap.size + 1, [.bool v, .int .u64 zh, .int .u64 zl], 26), (w.heap.size, [.bool v, .int .u64 ah, .int .u64 al], 26)] g xs (J.toNat * 4) ((J.toNat - 1) * 4) (.bool v) (.int .u64 eh) (.int .u64 el) (.int .i64 eb) (.bool v) (.int .u64 ph) (.int .u64 pl) (.int .i64 pb))) (by kernel_rfl) ?hS300 (fun hHeld => ?rest300)
          case hS300 => (first | with_reducible exact S8.drew | with_reducible exact hHeld.below hb9)
          refine wpAnyH_take (i := 0) (oi := _) (v := ?v301) (List.getElem?_toArray.trans rfl) (by kernel_rfl) (by kernel_rfl) (by kernel_rfl) (fun _ _ _ h => h) (Or.inl ⟨by rfl, ?hy301⟩) (by assumption) ?rest301
          case hy301 => (intro wq hSw; (try simp only [Two, SQ, Facts, CellsAt, C4] at hSw); go_simp; try with_reducible rfl)
          try simp only [Act.put, List.setIfInBounds_toArray, List.set_cons_zero, List.set_cons_succ]
          refine wpAnyH_take (i := 1) (oi := _) (v := (Value.bool false)) (List.getElem?_toArray.trans rfl) (by kernel_rfl) (by kernel_rfl) (by kernel_rfl) (fun _ _ _ h => h) (Or.inl ⟨by rfl, ?hy302⟩) (by assumption) ?rest302
          case hy302 => (intro wq hSw; (try simp only [Two, SQ, Facts, CellsAt, C4] at hSw); go_simp; (all_goals (first | rfl | (simp; done) | (simp; omega))))
          try simp only [Act.put, List.setIfInBounds_toArray, List.set_cons_zero, List.set_cons_succ]
          refine wpAnyH_take (i := 2) (oi := _) (v := ?v303) (List.getElem?_toArray.trans rfl) (by kernel_rfl) (by kernel_rfl) (by kernel_rfl) (fun _ _ _ h => h) (Or.inl ⟨by rfl, ?hy303⟩) (by assumption) ?rest303
          case hy303 => (intro wq hSw; (try simp only [Two, SQ, Facts, CellsAt, C4] at hSw); go_simp; try with_reducible rfl)
          try simp only [Act.put, List.setIfInBounds_toArray, List.set_cons_zero, List.set_cons_succ]
          refine wpAnyH_take (i := 3) (oi := _) (v := ?v304) (List.getElem?_toArray.trans rfl) (by kernel_rfl) (by kernel_rfl) (by kernel_rfl) (fun _ _ _ h => h) (Or.inl ⟨by rfl, ?hy304⟩) (by assumption) ?rest304
          case hy304 => (intro wq hSw; (try simp only [Two, SQ, Facts, CellsAt, C4] at hSw); go_simp; try with_reducible rfl)
          try simp only [Act.put, List.setIfInBounds_toArray, List.set_cons_zero, List.set_cons_succ]
          refine wpAnyH_take (i := 4) (oi := _) (v := ?v305) (List.getElem?_toArray.trans rfl) (by kernel_rfl) (by kernel_rfl) (by kernel_rfl) (fun _ _ _ h => h) (Or.inl ⟨by rfl, ?hy305⟩) (by assumption) ?rest305
          case hy305 => (intro wq hSw; (try simp only [Two, SQ, Facts, CellsAt, C4] at hSw); go_simp; try with_reducible rfl)
          try simp only [Act.put, List.setIfInBounds_toArray, List.set_cons_zero, List.set_cons_succ]
          refine wpAnyH_take (i := 5) (oi := _) (v := ?v306) (List.getElem?_toArray.trans rfl) (by kernel_rfl) (by kernel_rfl) (by kernel_rfl) (fun _ _ _ h => h) (Or.inl ⟨by rfl, ?hy306⟩) (by assumption) ?rest306
          case hy306 => (intro wq hSw; (try simp only [Two, SQ, Facts, CellsAt, C4] at hSw); go_simp; try with_reducible rfl)
          try simp only [Act.put, List.setIfInBounds_toArray, List.set_cons_zero, List.set_cons_succ]
          refine wpAnyH_take (i := 6) (oi := _) (v := ?v307) (List.getElem?_toArray.trans rfl) (by kernel_rfl) (by kernel_rfl) (by kernel_rfl) (fun _ _ _ h => h) (Or.inl ⟨by rfl, ?hy307⟩) (by assumption) ?rest307
          case hy307 => (intro wq hSw; (try simp only [Two, SQ, Facts, CellsAt, C4] at hSw); go_simp; try with_reducible rfl)
          try simp only [Act.put, List.setIfInBounds_toArray, List.set_cons_zero, List.set_cons_succ]
          refine wpAnyH_take (i := 8) (oi := _) (v := ?v308) (List.getElem?_toArray.trans rfl) (by kernel_rfl) (by kernel_rfl) (by kernel_rfl) (fun _ _ _ h => h) (Or.inl ⟨by rfl, ?hy308⟩) (by assumption) ?rest308
          case hy308 => (intro wq hSw; (try simp only [Two, SQ, Facts, CellsAt, C4] at hSw); go_simp; try with_reducible rfl)
          try simp only [Act.put, List.setIfInBounds_toArray, List.set_cons_zero, List.set_cons_succ]
          refine wpAnyH_ready (rs := [7]) (by kernel_rfl) (by simp) ?rdy309
          refine AllReadyH.cons (List.getElem?_toArray.trans rfl) (fun K hK => ?stp309) AllReadyH.nil
          go_simp
          go_wp2_with fail
          (refine (FI.out _).mono ?_; rintro e w9 ⟨rfl, hb9⟩)
          go_wp2_with fail
          refine hK.out _ _ ?hSn309 (fun hHeld2 => ?rest309)
          case hSn309 => (first | with_reducible exact S8.drew | with_reducible exact hHeld.below hb9)
          clear hK K hHeld
          have hHeld := hHeld2
          clear hHeld2
          try simp only [Act.put, List.setIfInBounds_toArray, List.set_cons_zero, List.set_cons_succ]
          refine wpAnyH_take (i := 9) (oi := _) (v := (Value.bool false)) (List.getElem?_toArray.trans rfl) (by kernel_rfl) (by kernel_rfl) (by kernel_rfl) (fun _ _ _ h => h) (Or.inl ⟨by rfl, ?hy310⟩) (by assumption) ?rest310
          case hy310 => (intro wq hSw; (try simp only [Two, SQ, Facts, CellsAt, C4] at hSw); go_simp; (all_goals (first | rfl | (simp; done) | (simp; omega))))
          try simp only [Act.put, List.setIfInBounds_toArray, List.set_cons_zero, List.set_cons_succ]
          refine wpAnyH_take (i := 10) (oi := _) (v := ?v311) (List.getElem?_toArray.trans rfl) (by kernel_rfl) (by kernel_rfl) (by kernel_rfl) (fun _ _ _ h => h) (Or.inl ⟨by rfl, ?hy311⟩) (by assumption) ?rest311
          case hy311 => (intro wq hSw; (try simp only [Two, SQ, Facts, CellsAt, C4] at hSw); go_simp; try with_reducible rfl)
          try simp only [Act.put, List.setIfInBounds_toArray, List.set_cons_zero, List.set_cons_succ]
          refine wpAnyH_done (by kernel_rfl) ?fin300 _
          have S9 := SQ.of hHeld.2.1.tail hHeld.2.2.1 x4 y4
          clear hHeld S8 hb9 FI
          by_cases heq : eb = pb
          · obtain ⟨e0, e1, uh, ul, rh, rl, OP, HV, NQ⟩ := HUP.out heq
            have hwe : IntKind.i64.wrap (eb - 1) = eb - 1 := by simp [IntKind.wrap, IntKind.bits, IntKind.signed]; omega
            have y4H : Hid _ := y4
            clear HUP e0 e1
            subst heq
            go_wp2_with fail
            refine wp_region_held_drew (S := (SQ w [(w.heap.size + 1 + 1, [.bool s, .int .u64 ch, .int .u64 cl], 26), (w.heap.size + 1, [.bool v, .int .u64 zh, .int .u64 zl], 26), (w.heap.size, [.bool v, .int .u64 ah, .int .u64 al], 26)] g xs (J.toNat * 4) ((J.toNat - 1) * 4) (.bool v) (.int .u64 eh) (.int .u64 el) (.int .i64 eb) (.bool v) (.int .u64 ph) (.int .u64 pl) (.int .i64 eb))) (by kernel_rfl) ?hS400 (fun hHeld => ?rest400)
            case hS400 => (first | with_reducible exact S9.drew)
            refine wpAnyH_take (i := 0) (oi := _) (v := ?v401) (List.getElem?_toArray.trans rfl) (by kernel_rfl) (by kernel_rfl) (by kernel_rfl) (fun _ _ _ h => h) (Or.inl ⟨by rfl, ?hy401⟩) (by assumption) ?rest401
            case hy401 => (intro wq hSw; (try simp only [Two, SQ, Facts, CellsAt, C4] at hSw); go_simp; try with_reducible rfl)
            try simp only [Act.put, List.setIfInBounds_toArray, List.set_cons_zero, List.set_cons_succ]
            refine wpAnyH_take (i := 1) (oi := _) (v := ?v402) (List.getElem?_toArray.trans rfl) (by kernel_rfl) (by kernel_rfl) (by kernel_rfl) (fun _ _ _ h => h) (Or.inl ⟨by rfl, ?hy402⟩) (by assumption) ?rest402
            case hy402 => (intro wq hSw; (try simp only [Two, SQ, Facts, CellsAt, C4] at hSw); go_simp; try with_reducible rfl)
            try simp only [Act.put, List.setIfInBounds_toArray, List.set_cons_zero, List.set_cons_succ]
            refine wpAnyH_take (i := 2) (oi := _) (v := ?v403) (List.getElem?_toArray.trans rfl) (by kernel_rfl) (by kernel_rfl) (by kernel_rfl) (fun _ _ _ h => h) (Or.inl ⟨by rfl, ?hy403⟩) (by assumption) ?rest403
            case hy403 => (intro wq hSw; (try simp only [Two, SQ, Facts, CellsAt, C4] at hSw); go_simp; try with_reducible rfl)
            try simp only [Act.put, List.setIfInBounds_toArray, List.set_cons_zero, List.set_cons_succ]
            refine wpAnyH_take (i := 3) (oi := _) (v := ?v404) (List.getElem?_toArray.trans rfl) (by kernel_rfl) (by kernel_rfl) (by kernel_rfl) (fun _ _ _ h => h) (Or.inl ⟨by rfl, ?hy404⟩) (by assumption) ?rest404
            case hy404 => (intro wq hSw; (try simp only [Two, SQ, Facts, CellsAt, C4] at hSw); go_simp; try with_reducible rfl)
            try simp only [Act.put, List.setIfInBounds_toArray, List.set_cons_zero, List.set_cons_succ]
            refine wpAnyH_take (i := 4) (oi := _) (v := ?v405) (List.getElem?_toArray.trans rfl) (by kernel_rfl) (by kernel_rfl) (by kernel_rfl) (fun _ _ _ h => h) (Or.inl ⟨by rfl, ?hy405⟩) (by assumption) ?rest405
            case hy405 => (intro wq hSw; (try simp only [Two, SQ, Facts, CellsAt, C4] at hSw); go_simp; try with_reducible rfl)
            try simp only [Act.put, List.setIfInBounds_toArray, List.set_cons_zero, List.set_cons_succ]
            refine wpAnyH_take (i := 5) (oi := _) (v := ?v406) (List.getElem?_toArray.trans rfl) (by kernel_rfl) (by kernel_rfl) (by kernel_rfl) (fun _ _ _ h => h) (Or.inl ⟨by rfl, ?hy406⟩) (by assumption) ?rest406
            case hy406 => (intro wq hSw; (try simp only [Two, SQ, Facts, CellsAt, C4] at hSw); go_simp; try with_reducible rfl)
            try simp only [Act.put, List.setIfInBounds_toArray, List.set_cons_zero, List.set_cons_succ]
            refine wpAnyH_take (i := 6) (oi := _) (v := ?v407) (List.getElem?_toArray.trans rfl) (by kernel_rfl) (by kernel_rfl) (by kernel_rfl) (fun _ _ _ h => h) (Or.inl ⟨by rfl, ?hy407⟩) (by assumption) ?rest407
            case hy407 => (intro wq hSw; (try simp only [Two, SQ, Facts, CellsAt, C4] at hSw); go_simp; try with_reducible rfl)
            try simp only [Act.put, List.setIfInBounds_toArray, List.set_cons_zero, List.set_cons_succ]
            refine wpAnyH_take (i := 7) (oi := _) (v := ?v408) (List.getElem?_toArray.trans rfl) (by kernel_rfl) (by kernel_rfl) (by kernel_rfl) (fun _ _ _ h => h) (Or.inl ⟨by rfl, ?hy408⟩) (by assumption) ?rest408
            case hy408 => (intro wq hSw; (try simp only [Two, SQ, Facts, CellsAt, C4] at hSw); go_simp; try with_reducible rfl)
            try simp only [Act.put, List.setIfInBounds_toArray, List.set_cons_zero, List.set_cons_succ]
            refine wpAnyH_take (i := 8) (oi := _) (v := ?v409) (List.getElem?_toArray.trans rfl) (by kernel_rfl) (by kernel_rfl) (by kernel_rfl) (fun _ _ _ h => h) (Or.inl ⟨by rfl, ?hy409⟩) (by assumption) ?rest409
            case hy409 => (intro wq hSw; (try simp only [Two, SQ, Facts, CellsAt, C4] at hSw); go_simp; try with_reducible rfl)
            try simp only [Act.put, List.setIfInBounds_toArray, List.set_cons_zero, List.set_cons_succ]
            refine wpAnyH_take (i := 9) (oi := _) (v := ?v410) (List.getElem?_toArray.trans rfl) (by kernel_rfl) (by kernel_rfl) (by kernel_rfl) (fun _ _ _ h => h) (Or.inl ⟨by rfl, ?hy410⟩) (by assumption) ?rest410
            case hy410 => (intro wq hSw; (try simp only [Two, SQ, Facts, CellsAt, C4] at hSw); go_simp; try with_reducible rfl)
            try simp only [Act.put, List.setIfInBounds_toArray, List.set_cons_zero, List.set_cons_succ]
            refine wpAnyH_take (i := 10) (oi := _) (v := ?v411) (List.getElem?_toArray.trans rfl) (by kernel_rfl) (by kernel_rfl) (by kernel_rfl) (fun _ _ _ h => h) (Or.inl ⟨by rfl, ?hy411⟩) (by assumption) ?rest411
            case hy411 => (intro wq hSw; (try simp only [Two, SQ, Facts, CellsAt, C4] at hSw); go_simp; try with_reducible rfl)
            try simp only [Act.put, List.setIfInBounds_toArray, List.set_cons_zero, List.set_cons_succ]
            refine wpAnyH_take (i := 11) (oi := _) (v := (Value.bool true)) (List.getElem?_toArray.trans rfl) (by kernel_rfl) (by kernel_rfl) (by kernel_rfl) (fun _ _ _ h => h) (Or.inl ⟨by rfl, ?hy412⟩) (by assumption) ?rest412
            case hy412 => (intro wq hSw; (try simp only [Two, SQ, Facts, CellsAt, C4] at hSw); go_simp; (all_goals (first | rfl | simp [*])))
            try simp only [Act.put, List.setIfInBounds_toArray, List.set_cons_zero, List.set_cons_succ]
            refine wpAnyH_done (by kernel_rfl) ?fin400 _
            obtain ⟨w10, hw10⟩ : ∃ w10, w10 = w9.drew := ⟨_, rfl⟩
            have S10 := hHeld
            rw [← hw10] at S10
            clear hHeld S9
            have LT := S10.2.1.lts
            simp only [Lts] at LT
            have gl := S10.2.2.1.1
            have dok : Lts w10.heap.size [(w.heap.size + 1 + 1, [.bool s, .int .u64 ch, .int .u64 cl], 26), (w.heap.size + 1, [.bool v, .int .u64 zh, .int .u64 zl], 26), (w.heap.size, [.bool v, .int .u64 ah, .int .u64 al], 26)] ∧ g < w10.heap.size ∧ w.heap.size ≤ w10.heap.size := ⟨S10.2.1.lts, gl, S10.2.1.bel.size⟩
            go_upto_region 21 with fail
            rw [← hw10]
            clear hw10
            go_cut [13, 14] (fun p t wc => ∃ X : Nat, p = .pointer (some ⟨X, 0, none⟩) ∧ t = .int .i64 0 ∧ Blk wc X #[.bool v, .int .u64 uh, .int .u64 ul, .int .i64 (eb - 1)] 28 ∧ (SQ w [(w.heap.size + 1 + 1, [.bool s, .int .u64 ch, .int .u64 cl], 26), (w.heap.size + 1, [.bool v, .int .u64 zh, .int .u64 zl], 26), (w.heap.size, [.bool v, .int .u64 ah, .int .u64 al], 26)] g xs (J.toNat * 4) ((J.toNat - 1) * 4) (.bool v) (.int .u64 eh) (.int .u64 el) (.int .i64 eb) (.bool v) (.int .u64 ph) (.int .u64 pl) (.int .i64 eb)) wc)
            case first =>
              refine wp_region_held_drew (S := (SQ w [(w.heap.size + 1 + 1, [.bool s, .int .u64 ch, .int .u64 cl], 26), (w.heap.size + 1, [.bool v, .int .u64 zh, .int .u64 zl], 26), (w.heap.size, [.bool v, .int .u64 ah, .int .u64 al], 26)] g xs (J.toNat * 4) ((J.toNat - 1) * 4) (.bool v) (.int .u64 eh) (.int .u64 el) (.int .i64 eb) (.bool v) (.int .u64 ph) (.int .u64 pl) (.int .i64 eb))) (by kernel_rfl) ?hS5001 (fun hHeld => ?rest5001)
              case hS5001 => (first | with_reducible exact S10.drew | with_reducible exact (S10.alloc _).drew | with_reducible exact hHeld.below hb11 | with_reducible exact hHeld.alloc _ | with_reducible exact K11.alloc _ | with_reducible exact hHeld.far4 dok _ _ _ _ | with_reducible exact K11.far4 dok _ _ _ _ | with_reducible exact (K11.alloc _).far4 dok _ _ _ _)
              refine wpAnyH_take (i := 0) (oi := _) (v := ?v5002) (List.getElem?_toArray.trans rfl) (by kernel_rfl) (by kernel_rfl) (by kernel_rfl) (fun _ _ _ h => h) (Or.inl ⟨by rfl, ?hy5002⟩) (by assumption) ?rest5002
              case hy5002 => (intro wq hSw; (try simp only [Two, SQ, Facts, CellsAt, C4] at hSw); go_simp; try with_reducible rfl)
              try simp only [Act.put, List.setIfInBounds_toArray, List.set_cons_zero, List.set_cons_succ]
              refine wpAnyH_take (i := 1) (oi := _) (v := ?v5003) (List.getElem?_toArray.trans rfl) (by kernel_rfl) (by kernel_rfl) (by kernel_rfl) (fun _ _ _ h => h) (Or.inl ⟨by rfl, ?hy5003⟩) (by assumption) ?rest5003
              case hy5003 => (intro wq hSw; (try simp only [Two, SQ, Facts, CellsAt, C4] at hSw); go_simp; try with_reducible rfl)
              try simp only [Act.put, List.setIfInBounds_toArray, List.set_cons_zero, List.set_cons_succ]
              refine wpAnyH_take (i := 2) (oi := _) (v := ?v5004) (List.getElem?_toArray.trans rfl) (by kernel_rfl) (by kernel_rfl) (by kernel_rfl) (fun _ _ _ h => h) (Or.inl ⟨by rfl, ?hy5004⟩) (by assumption) ?rest5004
              case hy5004 => (intro wq hSw; (try simp only [Two, SQ, Facts, CellsAt, C4] at hSw); go_simp; try with_reducible rfl)
              try simp only [Act.put, List.setIfInBounds_toArray, List.set_cons_zero, List.set_cons_succ]
              refine wpAnyH_take (i := 3) (oi := _) (v := ?v5005) (List.getElem?_toArray.trans rfl) (by kernel_rfl) (by kernel_rfl) (by kernel_rfl) (fun _ _ _ h => h) (Or.inl ⟨by rfl, ?hy5005⟩) (by assumption) ?rest5005
              case hy5005 => (intro wq hSw; (try simp only [Two, SQ, Facts, CellsAt, C4] at hSw); go_simp; try with_reducible rfl)
              try simp only [Act.put, List.setIfInBounds_toArray, List.set_cons_zero, List.set_cons_succ]
              refine wpAnyH_take (i := 4) (oi := _) (v := ?v5006) (List.getElem?_toArray.trans rfl) (by kernel_rfl) (by kernel_rfl) (by kernel_rfl) (fun _ _ _ h => h) (Or.inl ⟨by rfl, ?hy5006⟩) (by assumption) ?rest5006
              case hy5006 => (intro wq hSw; (try simp only [Two, SQ, Facts, CellsAt, C4] at hSw); go_simp; try with_reducible rfl)
              try simp only [Act.put, List.setIfInBounds_toArray, List.set_cons_zero, List.set_cons_succ]
              refine wpAnyH_take (i := 5) (oi := _) (v := ?v5007) (List.getElem?_toArray.trans rfl) (by kernel_rfl) (by kernel_rfl) (by kernel_rfl) (fun _ _ _ h => h) (Or.inl ⟨by rfl, ?hy5007⟩) (by assumption) ?rest5007
              case hy5007 => (intro wq hSw; (try simp only [Two, SQ, Facts, CellsAt, C4] at hSw); go_simp; try with_reducible rfl)
              try simp only [Act.put, List.setIfInBounds_toArray, List.set_cons_zero, List.set_cons_succ]
              refine wpAnyH_take (i := 6) (oi := _) (v := ?v5008) (List.getElem?_toArray.trans rfl) (by kernel_rfl) (by kernel_rfl) (by kernel_rfl) (fun _ _ _ h => h) (Or.inl ⟨by rfl, ?hy5008⟩) (by assumption) ?rest5008
              case hy5008 => (intro wq hSw; (try simp only [Two, SQ, Facts, CellsAt, C4] at hSw); go_simp; try with_reducible rfl)
              try simp only [Act.put, List.setIfInBounds_toArray, List.set_cons_zero, List.set_cons_succ]
              refine wpAnyH_take (i := 7) (oi := _) (v := ?v5009) (List.getElem?_toArray.trans rfl) (by kernel_rfl) (by kernel_rfl) (by kernel_rfl) (fun _ _ _ h => h) (Or.inl ⟨by rfl, ?hy5009⟩) (by assumption) ?rest5009
              case hy5009 => (intro wq hSw; (try simp only [Two, SQ, Facts, CellsAt, C4] at hSw); go_simp; try with_reducible rfl)
              try simp only [Act.put, List.setIfInBounds_toArray, List.set_cons_zero, List.set_cons_succ]
              refine wpAnyH_take (i := 8) (oi := _) (v := ?v5010) (List.getElem?_toArray.trans rfl) (by kernel_rfl) (by kernel_rfl) (by kernel_rfl) (fun _ _ _ h => h) (Or.inl ⟨by rfl, ?hy5010⟩) (by assumption) ?rest5010
              case hy5010 => (intro wq hSw; (try simp only [Two, SQ, Facts, CellsAt, C4] at hSw); go_simp; try with_reducible rfl)
              try simp only [Act.put, List.setIfInBounds_toArray, List.set_cons_zero, List.set_cons_succ]
              refine wpAnyH_take (i := 9) (oi := _) (v := ?v5011) (List.getElem?_toArray.trans rfl) (by kernel_rfl) (by kernel_rfl) (by kernel_rfl) (fun _ _ _ h => h) (Or.inl ⟨by rfl, ?hy5011⟩) (by assumption) ?rest5011
              case hy5011 => (intro wq hSw; (try simp only [Two, SQ, Facts, CellsAt, C4] at hSw); go_simp; try with_reducible rfl)
              try simp only [Act.put, List.setIfInBounds_toArray, List.set_cons_zero, List.set_cons_succ]
              refine wpAnyH_take (i := 10) (oi := _) (v := ?v5012) (List.getElem?_toArray.trans rfl) (by kernel_rfl) (by kernel_rfl) (by kernel_rfl) (fun _ _ _ h => h) (Or.inl ⟨by rfl, ?hy5012⟩) (by assumption) ?rest5012
              case hy5012 => (intro wq hSw; (try simp only [Two, SQ, Facts, CellsAt, C4] at hSw); go_simp; try with_reducible rfl)
              try simp only [Act.put, List.setIfInBounds_toArray, List.set_cons_zero, List.set_cons_succ]
              refine wpAnyH_ready (rs := [11, 15]) (by kernel_rfl) (by simp) ?rdy5013
              refine (AllReadyH.cons (List.getElem?_toArray.trans rfl) (fun K hK => ?stp5013_11) (AllReadyH.cons (List.getElem?_toArray.trans rfl) (fun K hK => ?stp5013_15) AllReadyH.nil))
              case stp5013_11 =>
                go_simp
                go_wp2_with fail
                (refine (OP.out _).mono ?_; rintro e w11 ⟨rfl, hb11⟩; have K11 := hHeld.below hb11; first | (have U5 : Blk w11 w10.heap.size #[.bool false, .int .u64 0, .int .u64 0, .int .i64 0] 28 := Blk.via hb11 (Blk.new w10 #[.bool false, .int .u64 0, .int .u64 0, .int .i64 0] 28) rfl; obtain ⟨u0, u1, u2, u3, u4, u5, u6, u7, u8⟩ := U5.four) | skip)
                go_wp2_with fail
                refine hK.out _ _ ?hSn5014 (fun hHeld2 => ?rest5014)
                case hSn5014 => (first | with_reducible exact S10.drew | with_reducible exact (S10.alloc _).drew | with_reducible exact hHeld.below hb11 | with_reducible exact hHeld.alloc _ | with_reducible exact K11.alloc _ | with_reducible exact hHeld.far4 dok _ _ _ _ | with_reducible exact K11.far4 dok _ _ _ _ | with_reducible exact (K11.alloc _).far4 dok _ _ _ _)
                clear hK K hHeld
                have hHeld := hHeld2
                clear hHeld2
                try simp only [Act.put, List.setIfInBounds_toArray, List.set_cons_zero, List.set_cons_succ]
                refine wpAnyH_take (i := 12) (oi := _) (v := ?v5015) (List.getElem?_toArray.trans rfl) (by kernel_rfl) (by kernel_rfl) (by kernel_rfl) (fun _ _ _ h => h) (Or.inl ⟨by rfl, ?hy5015⟩) (by assumption) ?rest5015
                case hy5015 => (intro wq hSw; (try simp only [Two, SQ, Facts, CellsAt, C4] at hSw); go_simp; try with_reducible rfl)
                try simp only [Act.put, List.setIfInBounds_toArray, List.set_cons_zero, List.set_cons_succ]
                refine wpAnyH_take (i := 13) (oi := _) (v := ?v5016) (List.getElem?_toArray.trans rfl) (by kernel_rfl) (by kernel_rfl) (by kernel_rfl) (fun _ _ _ h => h) (Or.inl ⟨by rfl, ?hy5016⟩) (by assumption) ?rest5016
                case hy5016 => (intro wq hSw; (try simp only [Two, SQ, Facts, CellsAt, C4] at hSw); go_simp; try with_reducible rfl)
                try simp only [Act.put, List.setIfInBounds_toArray, List.set_cons_zero, List.set_cons_succ]
                refine wpAnyH_take (i := 14) (oi := _) (v := ?v5017) (List.getElem?_toArray.trans rfl) (by kernel_rfl) (by kernel_rfl) (by kernel_rfl) (fun _ _ _ h => h) (Or.inl ⟨by rfl, ?hy5017⟩) (by assumption) ?rest5017
                case hy5017 => (intro wq hSw; (try simp only [Two, SQ, Facts, CellsAt, C4] at hSw); go_simp; try with_reducible rfl)
                try simp only [Act.put, List.setIfInBounds_toArray, List.set_cons_zero, List.set_cons_succ]
                refine wpAnyH_ready (rs := [15]) (by kernel_rfl) (by simp) ?rdy5018
                refine (AllReadyH.cons (List.getElem?_toArray.trans rfl) (fun K hK => ?stp5018_15) AllReadyH.nil)
                case stp5018_15 =>
                  go_simp
                  go_wp2_with fail
                  refine hK.out _ _ ?hSn5019 (fun hHeld2 => ?rest5019)
                  case hSn5019 => (first | with_reducible exact S10.drew | with_reducible exact (S10.alloc _).drew | with_reducible exact hHeld.below hb11 | with_reducible exact hHeld.alloc _ | with_reducible exact K11.alloc _ | with_reducible exact hHeld.far4 dok _ _ _ _ | with_reducible exact K11.far4 dok _ _ _ _ | with_reducible exact (K11.alloc _).far4 dok _ _ _ _)
                  clear hK K hHeld
                  have hHeld := hHeld2
                  clear hHeld2
                  try simp only [Act.put, List.setIfInBounds_toArray, List.set_cons_zero, List.set_cons_succ]
                  refine wpAnyH_ready (rs := [16]) (by kernel_rfl) (by simp) ?rdy5020
                  refine (AllReadyH.cons (List.getElem?_toArray.trans rfl) (fun K hK => ?stp5020_16) AllReadyH.nil)
                  case stp5020_16 =>
                    go_simp
                    go_wp2_with fail
                    refine hK.out _ _ ?hSn5021 (fun hHeld2 => ?rest5021)
                    case hSn5021 => (first | with_reducible exact S10.drew | with_reducible exact (S10.alloc _).drew | with_reducible exact hHeld.below hb11 | with_reducible exact hHeld.alloc _ | with_reducible exact K11.alloc _ | with_reducible exact hHeld.far4 dok _ _ _ _ | with_reducible exact K11.far4 dok _ _ _ _ | with_reducible exact (K11.alloc _).far4 dok _ _ _ _)
                    clear hK K hHeld
                    have hHeld := hHeld2
                    clear hHeld2
                    try simp only [Act.put, List.setIfInBounds_toArray, List.set_cons_zero, List.set_cons_succ]
                    refine wpAnyH_take (i := 17) (oi := _) (v := ?v5022) (List.getElem?_toArray.trans rfl) (by kernel_rfl) (by kernel_rfl) (by kernel_rfl) (fun _ _ _ h => h) (Or.inl ⟨by rfl, ?hy5022⟩) (by assumption) ?rest5022
                    case hy5022 => (intro wq hSw; (try simp only [Two, SQ, Facts, CellsAt, C4] at hSw); go_simp; try with_reducible rfl)
                    try simp only [Act.put, List.setIfInBounds_toArray, List.set_cons_zero, List.set_cons_succ]
                    refine wpAnyH_done (by kernel_rfl) ?_ _
                    go_wp2_with fail
                    go_meet
                    case rel => exact ⟨_, rfl, rfl, (by repeat (first | with_reducible exact Blk.new _ _ _ | with_reducible exact U5 | with_reducible refine Blk.put4 (x := .bool false) (y := .int .u64 0) (z := .int .u64 0) (q := .int .i64 0) ?_ _ _ _ _)), hHeld⟩
              case stp5013_15 =>
                go_simp
                go_wp2_with fail
                refine hK.out _ _ ?hSn5023 (fun hHeld2 => ?rest5023)
                case hSn5023 => (first | with_reducible exact S10.drew | with_reducible exact (S10.alloc _).drew | with_reducible exact hHeld.below hb11 | with_reducible exact hHeld.alloc _ | with_reducible exact K11.alloc _ | with_reducible exact hHeld.far4 dok _ _ _ _ | with_reducible exact K11.far4 dok _ _ _ _ | with_reducible exact (K11.alloc _).far4 dok _ _ _ _)
                clear hK K hHeld
                have hHeld := hHeld2
                clear hHeld2
                try simp only [Act.put, List.setIfInBounds_toArray, List.set_cons_zero, List.set_cons_succ]
                refine wpAnyH_ready (rs := [11]) (by kernel_rfl) (by simp) ?rdy5024
                refine (AllReadyH.cons (List.getElem?_toArray.trans rfl) (fun K hK => ?stp5024_11) AllReadyH.nil)
                case stp5024_11 =>
                  go_simp
                  go_wp2_with fail
                  (refine (OP.out _).mono ?_; rintro e w11 ⟨rfl, hb11⟩; have K11 := hHeld.below hb11; first | (have U5 : Blk w11 w10.heap.size #[.bool false, .int .u64 0, .int .u64 0, .int .i64 0] 28 := Blk.via hb11 (Blk.new w10 #[.bool false, .int .u64 0, .int .u64 0, .int .i64 0] 28) rfl; obtain ⟨u0, u1, u2, u3, u4, u5, u6, u7, u8⟩ := U5.four) | skip)
                  go_wp2_with fail
                  refine hK.out _ _ ?hSn5025 (fun hHeld2 => ?rest5025)
                  case hSn5025 => (first | with_reducible exact S10.drew | with_reducible exact (S10.alloc _).drew | with_reducible exact hHeld.below hb11 | with_reducible exact hHeld.alloc _ | with_reducible exact K11.alloc _ | with_reducible exact hHeld.far4 dok _ _ _ _ | with_reducible exact K11.far4 dok _ _ _ _ | with_reducible exact (K11.alloc _).far4 dok _ _ _ _)
                  clear hK K hHeld
                  have hHeld := hHeld2
                  clear hHeld2
                  try simp only [Act.put, List.setIfInBounds_toArray, List.set_cons_zero, List.set_cons_succ]
                  refine wpAnyH_take (i := 12) (oi := _) (v := ?v5026) (List.getElem?_toArray.trans rfl) (by kernel_rfl) (by kernel_rfl) (by kernel_rfl) (fun _ _ _ h => h) (Or.inl ⟨by rfl, ?hy5026⟩) (by assumption) ?rest5026
                  case hy5026 => (intro wq hSw; (try simp only [Two, SQ, Facts, CellsAt, C4] at hSw); go_simp; try with_reducible rfl)
                  try simp only [Act.put, List.setIfInBounds_toArray, List.set_cons_zero, List.set_cons_succ]
                  refine wpAnyH_take (i := 13) (oi := _) (v := ?v5027) (List.getElem?_toArray.trans rfl) (by kernel_rfl) (by kernel_rfl) (by kernel_rfl) (fun _ _ _ h => h) (Or.inl ⟨by rfl, ?hy5027⟩) (by assumption) ?rest5027
                  case hy5027 => (intro wq hSw; (try simp only [Two, SQ, Facts, CellsAt, C4] at hSw); go_simp; try with_reducible rfl)
                  try simp only [Act.put, List.setIfInBounds_toArray, List.set_cons_zero, List.set_cons_succ]
                  refine wpAnyH_take (i := 14) (oi := _) (v := ?v5028) (List.getElem?_toArray.trans rfl) (by kernel_rfl) (by kernel_rfl) (by kernel_rfl) (fun _ _ _ h => h) (Or.inl ⟨by rfl, ?hy5028⟩) (by assumption) ?rest5028
                  case hy5028 => (intro wq hSw; (try simp only [Two, SQ, Facts, CellsAt, C4] at hSw); go_simp; try with_reducible rfl)
                  try simp only [Act.put, List.setIfInBounds_toArray, List.set_cons_zero, List.set_cons_succ]
                  refine wpAnyH_ready (rs := [16]) (by kernel_rfl) (by simp) ?rdy5029
                  refine (AllReadyH.cons (List.getElem?_toArray.trans rfl) (fun K hK => ?stp5029_16) AllReadyH.nil)
                  case stp5029_16 =>
                    go_simp
                    go_wp2_with fail
                    refine hK.out _ _ ?hSn5030 (fun hHeld2 => ?rest5030)
                    case hSn5030 => (first | with_reducible exact S10.drew | with_reducible exact (S10.alloc _).drew | with_reducible exact hHeld.below hb11 | with_reducible exact hHeld.alloc _ | with_reducible exact K11.alloc _ | with_reducible exact hHeld.far4 dok _ _ _ _ | with_reducible exact K11.far4 dok _ _ _ _ | with_reducible exact (K11.alloc _).far4 dok _ _ _ _)
                    clear hK K hHeld
                    have hHeld := hHeld2
                    clear hHeld2
                    try simp only [Act.put, List.setIfInBounds_toArray, List.set_cons_zero, List.set_cons_succ]
                    refine wpAnyH_take (i := 17) (oi := _) (v := ?v5031) (List.getElem?_toArray.trans rfl) (by kernel_rfl) (by kernel_rfl) (by kernel_rfl) (fun _ _ _ h => h) (Or.inl ⟨by rfl, ?hy5031⟩) (by assumption) ?rest5031
                    case hy5031 => (intro wq hSw; (try simp only [Two, SQ, Facts, CellsAt, C4] at hSw); go_simp; try with_reducible rfl)
                    try simp only [Act.put, List.setIfInBounds_toArray, List.set_cons_zero, List.set_cons_succ]
                    refine wpAnyH_done (by kernel_rfl) ?_ _
                    go_wp2_with fail
                    go_meet
                    case rel => exact ⟨_, rfl, rfl, (by repeat (first | with_reducible exact Blk.new _ _ _ | with_reducible exact U5 | with_reducible refine Blk.put4 (x := .bool false) (y := .int .u64 0) (z := .int .u64 0) (q := .int .i64 0) ?_ _ _ _ _)), hHeld⟩
            case rest =>
              obtain ⟨X, rfl, rfl, N, S11⟩ := hcut
              clear S10 OP LT gl dok
              obtain ⟨x0, x1, x2, x3, _⟩ := N.four
              go_wp2_with fail
              refine (HV.out _).mono ?_
              rintro e w12 ⟨rfl, hb12⟩
              have S12 := S11.below hb12
              have K12 := (S12.2.1.push (b := w12.heap.size) (cs := [.bool v, .int .u64 uh, .int .u64 ul, .int .i64 eb]) (t := 28) (by simp)).alloc (.cells #[.bool v, .int .u64 rh, .int .u64 rl, .int .i64 eb] 28)
              have S13 := SQ.of K12 ((S12.2.2.1.alloc _).alloc _) x4 y4H.out
              clear HV hb12 S11 S12 K12 N x0 x1 x2 x3
              go_wp2_with fail
              refine wp_region_held_drew (S := (SQ w [(w12.heap.size, [.bool v, .int .u64 uh, .int .u64 ul, .int .i64 eb], 28), (w.heap.size + 1 + 1, [.bool s, .int .u64 ch, .int .u64 cl], 26), (w.heap.size + 1, [.bool v, .int .u64 zh, .int .u64 zl], 26), (w.heap.size, [.bool v, .int .u64 ah, .int .u64 al], 26)] g xs (J.toNat * 4) ((J.toNat - 1) * 4) (.bool v) (.int .u64 eh) (.int .u64 el) (.int .i64 eb) (.bool v) (.int .u64 ph) (.int .u64 pl) (.int .i64 eb))) (by kernel_rfl) ?hS500 (fun hHeld => ?rest500)
              case hS500 => (first | with_reducible exact S13.drew)
              refine wpAnyH_take (i := 0) (oi := _) (v := ?v501) (List.getElem?_toArray.trans rfl) (by kernel_rfl) (by kernel_rfl) (by kernel_rfl) (fun _ _ _ h => h) (Or.inl ⟨by rfl, ?hy501⟩) (by assumption) ?rest501
              case hy501 => (intro wq hSw; (try simp only [Two, SQ, Facts, CellsAt, C4] at hSw); go_simp; try with_reducible rfl)
              try simp only [Act.put, List.setIfInBounds_toArray, List.set_cons_zero, List.set_cons_succ]
              refine wpAnyH_take (i := 1) (oi := _) (v := ?v502) (List.getElem?_toArray.trans rfl) (by kernel_rfl) (by kernel_rfl) (by kernel_rfl) (fun _ _ _ h => h) (Or.inl ⟨by rfl, ?hy502⟩) (by assumption) ?rest502
              case hy502 => (intro wq hSw; (try simp only [Two, SQ, Facts, CellsAt, C4] at hSw); go_simp; try with_reducible rfl)
              try simp only [Act.put, List.setIfInBounds_toArray, List.set_cons_zero, List.set_cons_succ]
              refine wpAnyH_take (i := 2) (oi := _) (v := ?v503) (List.getElem?_toArray.trans rfl) (by kernel_rfl) (by kernel_rfl) (by kernel_rfl) (fun _ _ _ h => h) (Or.inl ⟨by rfl, ?hy503⟩) (by assumption) ?rest503
              case hy503 => (intro wq hSw; (try simp only [Two, SQ, Facts, CellsAt, C4] at hSw); go_simp; try with_reducible rfl)
              try simp only [Act.put, List.setIfInBounds_toArray, List.set_cons_zero, List.set_cons_succ]
              refine wpAnyH_take (i := 3) (oi := _) (v := ?v504) (List.getElem?_toArray.trans rfl) (by kernel_rfl) (by kernel_rfl) (by kernel_rfl) (fun _ _ _ h => h) (Or.inl ⟨by rfl, ?hy504⟩) (by assumption) ?rest504
              case hy504 => (intro wq hSw; (try simp only [Two, SQ, Facts, CellsAt, C4] at hSw); go_simp; try with_reducible rfl)
              try simp only [Act.put, List.setIfInBounds_toArray, List.set_cons_zero, List.set_cons_succ]
              refine wpAnyH_take (i := 4) (oi := _) (v := ?v505) (List.getElem?_toArray.trans rfl) (by kernel_rfl) (by kernel_rfl) (by kernel_rfl) (fun _ _ _ h => h) (Or.inl ⟨by rfl, ?hy505⟩) (by assumption) ?rest505
              case hy505 => (intro wq hSw; (try simp only [Two, SQ, Facts, CellsAt, C4] at hSw); go_simp; try with_reducible rfl)
              try simp only [Act.put, List.setIfInBounds_toArray, List.set_cons_zero, List.set_cons_succ]
              refine wpAnyH_take (i := 5) (oi := _) (v := ?v506) (List.getElem?_toArray.trans rfl) (by kernel_rfl) (by kernel_rfl) (by kernel_rfl) (fun _ _ _ h => h) (Or.inl ⟨by rfl, ?hy506⟩) (by assumption) ?rest506
              case hy506 => (intro wq hSw; (try simp only [Two, SQ, Facts, CellsAt, C4] at hSw); go_simp; try with_reducible rfl)
              try simp only [Act.put, List.setIfInBounds_toArray, List.set_cons_zero, List.set_cons_succ]
              refine wpAnyH_take (i := 6) (oi := _) (v := (Value.bool false)) (List.getElem?_toArray.trans rfl) (by kernel_rfl) (by kernel_rfl) (by kernel_rfl) (fun _ _ _ h => h) (Or.inl ⟨by rfl, ?hy507⟩) (by assumption) ?rest507
              case hy507 => (intro wq hSw; (try simp only [Two, SQ, Facts, CellsAt, C4] at hSw); go_simp; (all_goals (rcases NQ.out with q1 | ⟨q1, q2⟩ <;> simp [*])))
              try simp only [Act.put, List.setIfInBounds_toArray, List.set_cons_zero, List.set_cons_succ]
              refine wpAnyH_done (by kernel_rfl) ?fin500 _
              have K := hHeld.2.1.tail
              have hR := hHeld.2.2.1
              clear hHeld S13 NQ
              go_wp2
              go_roundw
              case measure => simp [intOf]; omega
              case rel => exact FIN.out _ K hR
          · clear HUP
            go_wp2_with fail
            refine wp_region_held_drew (S := (SQ w [(w.heap.size + 1 + 1, [.bool s, .int .u64 ch, .int .u64 cl], 26), (w.heap.size + 1, [.bool v, .int .u64 zh, .int .u64 zl], 26), (w.heap.size, [.bool v, .int .u64 ah, .int .u64 al], 26)] g xs (J.toNat * 4) ((J.toNat - 1) * 4) (.bool v) (.int .u64 eh) (.int .u64 el) (.int .i64 eb) (.bool v) (.int .u64 ph) (.int .u64 pl) (.int .i64 pb))) (by kernel_rfl) ?hS600 (fun hHeld => ?rest600)
            case hS600 => (first | with_reducible exact S9.drew)
            refine wpAnyH_take (i := 0) (oi := _) (v := ?v601) (List.getElem?_toArray.trans rfl) (by kernel_rfl) (by kernel_rfl) (by kernel_rfl) (fun _ _ _ h => h) (Or.inl ⟨by rfl, ?hy601⟩) (by assumption) ?rest601
            case hy601 => (intro wq hSw; (try simp only [Two, SQ, Facts, CellsAt, C4] at hSw); go_simp; try with_reducible rfl)
            try simp only [Act.put, List.setIfInBounds_toArray, List.set_cons_zero, List.set_cons_succ]
            refine wpAnyH_take (i := 1) (oi := _) (v := ?v602) (List.getElem?_toArray.trans rfl) (by kernel_rfl) (by kernel_rfl) (by kernel_rfl) (fun _ _ _ h => h) (Or.inl ⟨by rfl, ?hy602⟩) (by assumption) ?rest602
            case hy602 => (intro wq hSw; (try simp only [Two, SQ, Facts, CellsAt, C4] at hSw); go_simp; try with_reducible rfl)
            try simp only [Act.put, List.setIfInBounds_toArray, List.set_cons_zero, List.set_cons_succ]
            refine wpAnyH_take (i := 2) (oi := _) (v := ?v603) (List.getElem?_toArray.trans rfl) (by kernel_rfl) (by kernel_rfl) (by kernel_rfl) (fun _ _ _ h => h) (Or.inl ⟨by rfl, ?hy603⟩) (by assumption) ?rest603
            case hy603 => (intro wq hSw; (try simp only [Two, SQ, Facts, CellsAt, C4] at hSw); go_simp; try with_reducible rfl)
            try simp only [Act.put, List.setIfInBounds_toArray, List.set_cons_zero, List.set_cons_succ]
            refine wpAnyH_take (i := 3) (oi := _) (v := ?v604) (List.getElem?_toArray.trans rfl) (by kernel_rfl) (by kernel_rfl) (by kernel_rfl) (fun _ _ _ h => h) (Or.inl ⟨by rfl, ?hy604⟩) (by assumption) ?rest604
            case hy604 => (intro wq hSw; (try simp only [Two, SQ, Facts, CellsAt, C4] at hSw); go_simp; try with_reducible rfl)
            try simp only [Act.put, List.setIfInBounds_toArray, List.set_cons_zero, List.set_cons_succ]
            refine wpAnyH_take (i := 4) (oi := _) (v := ?v605) (List.getElem?_toArray.trans rfl) (by kernel_rfl) (by kernel_rfl) (by kernel_rfl) (fun _ _ _ h => h) (Or.inl ⟨by rfl, ?hy605⟩) (by assumption) ?rest605
            case hy605 => (intro wq hSw; (try simp only [Two, SQ, Facts, CellsAt, C4] at hSw); go_simp; try with_reducible rfl)
            try simp only [Act.put, List.setIfInBounds_toArray, List.set_cons_zero, List.set_cons_succ]
            refine wpAnyH_take (i := 5) (oi := _) (v := ?v606) (List.getElem?_toArray.trans rfl) (by kernel_rfl) (by kernel_rfl) (by kernel_rfl) (fun _ _ _ h => h) (Or.inl ⟨by rfl, ?hy606⟩) (by assumption) ?rest606
            case hy606 => (intro wq hSw; (try simp only [Two, SQ, Facts, CellsAt, C4] at hSw); go_simp; try with_reducible rfl)
            try simp only [Act.put, List.setIfInBounds_toArray, List.set_cons_zero, List.set_cons_succ]
            refine wpAnyH_take (i := 6) (oi := _) (v := ?v607) (List.getElem?_toArray.trans rfl) (by kernel_rfl) (by kernel_rfl) (by kernel_rfl) (fun _ _ _ h => h) (Or.inl ⟨by rfl, ?hy607⟩) (by assumption) ?rest607
            case hy607 => (intro wq hSw; (try simp only [Two, SQ, Facts, CellsAt, C4] at hSw); go_simp; try with_reducible rfl)
            try simp only [Act.put, List.setIfInBounds_toArray, List.set_cons_zero, List.set_cons_succ]
            refine wpAnyH_take (i := 7) (oi := _) (v := ?v608) (List.getElem?_toArray.trans rfl) (by kernel_rfl) (by kernel_rfl) (by kernel_rfl) (fun _ _ _ h => h) (Or.inl ⟨by rfl, ?hy608⟩) (by assumption) ?rest608
            case hy608 => (intro wq hSw; (try simp only [Two, SQ, Facts, CellsAt, C4] at hSw); go_simp; try with_reducible rfl)
            try simp only [Act.put, List.setIfInBounds_toArray, List.set_cons_zero, List.set_cons_succ]
            refine wpAnyH_take (i := 8) (oi := _) (v := ?v609) (List.getElem?_toArray.trans rfl) (by kernel_rfl) (by kernel_rfl) (by kernel_rfl) (fun _ _ _ h => h) (Or.inl ⟨by rfl, ?hy609⟩) (by assumption) ?rest609
            case hy609 => (intro wq hSw; (try simp only [Two, SQ, Facts, CellsAt, C4] at hSw); go_simp; try with_reducible rfl)
            try simp only [Act.put, List.setIfInBounds_toArray, List.set_cons_zero, List.set_cons_succ]
            refine wpAnyH_take (i := 9) (oi := _) (v := ?v610) (List.getElem?_toArray.trans rfl) (by kernel_rfl) (by kernel_rfl) (by kernel_rfl) (fun _ _ _ h => h) (Or.inl ⟨by rfl, ?hy610⟩) (by assumption) ?rest610
            case hy610 => (intro wq hSw; (try simp only [Two, SQ, Facts, CellsAt, C4] at hSw); go_simp; try with_reducible rfl)
            try simp only [Act.put, List.setIfInBounds_toArray, List.set_cons_zero, List.set_cons_succ]
            refine wpAnyH_take (i := 10) (oi := _) (v := ?v611) (List.getElem?_toArray.trans rfl) (by kernel_rfl) (by kernel_rfl) (by kernel_rfl) (fun _ _ _ h => h) (Or.inl ⟨by rfl, ?hy611⟩) (by assumption) ?rest611
            case hy611 => (intro wq hSw; (try simp only [Two, SQ, Facts, CellsAt, C4] at hSw); go_simp; try with_reducible rfl)
            try simp only [Act.put, List.setIfInBounds_toArray, List.set_cons_zero, List.set_cons_succ]
            refine wpAnyH_take (i := 11) (oi := _) (v := (Value.bool false)) (List.getElem?_toArray.trans rfl) (by kernel_rfl) (by kernel_rfl) (by kernel_rfl) (fun _ _ _ h => h) (Or.inl ⟨by rfl, ?hy612⟩) (by assumption) ?rest612
            case hy612 => (intro wq hSw; (try simp only [Two, SQ, Facts, CellsAt, C4] at hSw); go_simp; (all_goals (first | rfl | simp [*])))
            try simp only [Act.put, List.setIfInBounds_toArray, List.set_cons_zero, List.set_cons_succ]
            refine wpAnyH_done (by kernel_rfl) ?fin600 _
            have K := hHeld.2.1
            have hR := hHeld.2.2.1
            clear hHeld S9
            go_wp2
            go_roundw
            case measure => simp [intOf]; omega
            case rel => exact FIN.out _ K hR
    · obtain rfl : J = (n : Int) := by omega
      have hjn : j = n := by have := HJ.out.1; omega
      have hH : (ri = true ∧ m1 ≤ 0 ∧ m2 ≤ 0) ↔ H = 1 := by rw [HJ.out.2, hjn]; exact hin.out
      clear hjn HJ BU h0 hin
      have HIN : Hid _ := hH
      clear hH
      go_wp2_with fail
      refine (RC.out _).mono ?_
      rintro e w4 ⟨rfl, hb4⟩
      replace K := K.below hb4
      replace F := K.1
      simp only [Facts, CellsAt] at F
      clear hb4 RC
      cases ri
      · have H2 : H = 0 := by
          have := HIN.out
          by_cases q : H = 1
          · exact absurd (this.2 q).1 (by decide)
          · omega
        subst H2
        have B := K.bel
        clear K C1 C2 HIN
        go_wp2
        go_ret
        exact ⟨by first | rfl | (simp; done) | (simp; omega), B⟩
      · go_wp2_with fail
        refine (C1.out _).mono ?_
        rintro e w5 ⟨rfl, hb5⟩
        replace K := K.below hb5
        replace F := K.1
        simp only [Facts, CellsAt] at F
        clear hb5 C1
        by_cases q1 : m1 ≤ 0
        · go_wp2_with fail
          refine (C2.out _).mono ?_
          rintro e w6 ⟨rfl, hb6⟩
          replace K := K.below hb6
          have B := K.bel
          clear hb6 C2 K F
          by_cases q2 : m2 ≤ 0
          · obtain rfl : H = 1 := HIN.out.1 ⟨by first | rfl | trivial, q1, q2⟩
            clear HIN
            go_wp2
            go_ret
            exact ⟨by first | rfl | (simp; done) | (simp; omega), B⟩
          · have H2 : H = 0 := by
              by_cases q : H = 1
              · exact absurd (HIN.out.2 q).2.2 q2
              · omega
            subst H2
            clear HIN
            go_wp2
            go_ret
            exact ⟨by first | rfl | (simp; done) | (simp; omega), B⟩
        · have H2 : H = 0 := by
            by_cases q : H = 1
            · exact absurd (HIN.out.2 q).2.1 q1
            · omega
          subst H2
          have B := K.bel
          clear K C2 HIN
          go_wp2
          go_ret
          exact ⟨by first | rfl | (simp; done) | (simp; omega), B⟩
end Go.Proofs.YtmhnfgfdggjdhaaGreatDoor

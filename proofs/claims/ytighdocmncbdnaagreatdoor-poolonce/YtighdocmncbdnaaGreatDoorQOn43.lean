/-
  Texts Po1 of the proof.
-/
import Derived.Test.YtighdocmncbdnaaGreatDoorQOn42

namespace Go.Proofs.YtighdocmncbdnaaGreatDoor
open Go.ChangeShapes Go.WideShapes Go.ChangeAt Go.RowKit
set_option linter.unusedVariables false
set_option linter.unusedSimpArgs false

theorem pfx_start (w : World) (v : Bool) (h l b : Int) : Kn w [(w.heap.size, [.bool v, .int .u64 h, .int .u64 l, .int .i64 b], 28)] (w.alloc (.cells #[.bool v, .int .u64 h, .int .u64 l, .int .i64 b] 28)) := (Kn.nil w).push rfl

set_option maxRecDepth 100000 in
set_option maxHeartbeats 1600000 in
theorem sizeOf_no {v : Bool} {h l b rh rl : Int}
    (HS : Hid (∀ w', Calls Tryz.prog 106 #[pv v h l b] w' fun e w1 => e = .returned (.tuple #[nv rh rl, .bool false, .int .i64 1]) ∧ Below w'.heap.size w' w1)) (w : World) :
    Calls Tryz.prog 59 #[pv v h l b] w fun e w' => e = .returned (.int .i64 0) ∧ Below w.heap.size w w' := by
  have K := pfx_start w v h l b
  go_enter Tryz.func59, Tryz.ntmps59
  go_wp2_with fail
  refine (HS.out _).mono ?_
  rintro e w1 ⟨rfl, hb⟩
  have B := (K.below hb).bel
  have hs := B.size
  clear HS hb K
  go_wp2
  go_ret
  exact ⟨rfl, by repeat (first | with_reducible exact Below.refl _ _ | with_reducible refine Below.drew ?_ | with_reducible refine Below.alloc ?_ (by first | omega | (simp <;> omega)) _ | with_reducible refine Below.setCell ?_ (by first | omega | (simp <;> omega)) _ | with_reducible refine Below.trans ?_ (Below.mono B (by first | omega | (simp <;> omega))))⟩

set_option maxRecDepth 100000 in
set_option maxHeartbeats 1600000 in
theorem sizeOf_out {v : Bool} {h l b rh rl : Int}
    (HS : Hid (∀ w', Calls Tryz.prog 106 #[pv v h l b] w' fun e w1 => e = .returned (.tuple #[nv rh rl, .bool false, .int .i64 0]) ∧ Below w'.heap.size w' w1)) (w : World) :
    Calls Tryz.prog 59 #[pv v h l b] w fun e w' => e = .returned (.int .i64 65536) ∧ Below w.heap.size w w' := by
  have K := pfx_start w v h l b
  go_enter Tryz.func59, Tryz.ntmps59
  go_wp2_with fail
  refine (HS.out _).mono ?_
  rintro e w1 ⟨rfl, hb⟩
  have B := (K.below hb).bel
  have hs := B.size
  have K0 := (Kn.of (w := w) (W := w1) (L := []) trivial B).push (b := w1.heap.size) (cs := [.int .u64 rh, .int .u64 rl]) (t := 24) rfl
  clear HS hb K
  go_wp2_with fail
  refine wp_region_held_drew (S := (Kn w [(w1.heap.size, [.int .u64 rh, .int .u64 rl], 24)])) (by kernel_rfl) ?hS100 (fun hHeld => ?rest100)
  case hS100 => (first | with_reducible exact K0.drew)
  refine wpAnyH_take (i := 0) (oi := _) (v := ?v101) (List.getElem?_toArray.trans rfl) (by kernel_rfl) (by kernel_rfl) (by kernel_rfl) (fun _ _ _ h => h) (Or.inl ⟨by rfl, ?hy101⟩) (by assumption) ?rest101
  case hy101 => (intro wq hSw; (try simp only [Two, Kn, Facts, CellsAt] at hSw); go_simp; try with_reducible rfl)
  try simp only [Act.put, List.setIfInBounds_toArray, List.set_cons_zero, List.set_cons_succ]
  refine wpAnyH_take (i := 1) (oi := _) (v := ?v102) (List.getElem?_toArray.trans rfl) (by kernel_rfl) (by kernel_rfl) (by kernel_rfl) (fun _ _ _ h => h) (Or.inl ⟨by rfl, ?hy102⟩) (by assumption) ?rest102
  case hy102 => (intro wq hSw; (try simp only [Two, Kn, Facts, CellsAt] at hSw); go_simp; try with_reducible rfl)
  try simp only [Act.put, List.setIfInBounds_toArray, List.set_cons_zero, List.set_cons_succ]
  refine wpAnyH_take (i := 2) (oi := _) (v := ?v103) (List.getElem?_toArray.trans rfl) (by kernel_rfl) (by kernel_rfl) (by kernel_rfl) (fun _ _ _ h => h) (Or.inl ⟨by rfl, ?hy103⟩) (by assumption) ?rest103
  case hy103 => (intro wq hSw; (try simp only [Two, Kn, Facts, CellsAt] at hSw); go_simp; try with_reducible rfl)
  try simp only [Act.put, List.setIfInBounds_toArray, List.set_cons_zero, List.set_cons_succ]
  refine wpAnyH_take (i := 3) (oi := _) (v := undef) (List.getElem?_toArray.trans rfl) (by kernel_rfl) (by kernel_rfl) (by kernel_rfl) (fun _ _ _ h => h) (Or.inr ⟨by rfl, rfl⟩) (by assumption) ?rest104
  try simp only [Act.put, List.setIfInBounds_toArray, List.set_cons_zero, List.set_cons_succ]
  refine wpAnyH_take (i := 4) (oi := _) (v := undef) (List.getElem?_toArray.trans rfl) (by kernel_rfl) (by kernel_rfl) (by kernel_rfl) (fun _ _ _ h => h) (Or.inr ⟨by rfl, rfl⟩) (by assumption) ?rest105
  try simp only [Act.put, List.setIfInBounds_toArray, List.set_cons_zero, List.set_cons_succ]
  refine wpAnyH_take (i := 5) (oi := _) (v := undef) (List.getElem?_toArray.trans rfl) (by kernel_rfl) (by kernel_rfl) (by kernel_rfl) (fun _ _ _ h => h) (Or.inr ⟨by rfl, rfl⟩) (by assumption) ?rest106
  try simp only [Act.put, List.setIfInBounds_toArray, List.set_cons_zero, List.set_cons_succ]
  refine wpAnyH_take (i := 6) (oi := _) (v := undef) (List.getElem?_toArray.trans rfl) (by kernel_rfl) (by kernel_rfl) (by kernel_rfl) (fun _ _ _ h => h) (Or.inr ⟨by rfl, rfl⟩) (by assumption) ?rest107
  try simp only [Act.put, List.setIfInBounds_toArray, List.set_cons_zero, List.set_cons_succ]
  refine wpAnyH_take (i := 7) (oi := _) (v := ?v108) (List.getElem?_toArray.trans rfl) (by kernel_rfl) (by kernel_rfl) (by kernel_rfl) (fun _ _ _ h => h) (Or.inl ⟨by rfl, ?hy108⟩) (by assumption) ?rest108
  case hy108 => (intro wq hSw; (try simp only [Two, Kn, Facts, CellsAt] at hSw); go_simp; try with_reducible rfl)
  try simp only [Act.put, List.setIfInBounds_toArray, List.set_cons_zero, List.set_cons_succ]
  refine wpAnyH_done (by kernel_rfl) ?fin100 _
  clear hHeld K0
  go_wp2
  go_ret
  exact ⟨rfl, by repeat (first | with_reducible exact Below.refl _ _ | with_reducible refine Below.drew ?_ | with_reducible refine Below.alloc ?_ (by first | omega | (simp <;> omega)) _ | with_reducible refine Below.setCell ?_ (by first | omega | (simp <;> omega)) _ | with_reducible refine Below.trans ?_ (Below.mono B (by first | omega | (simp <;> omega))))⟩

set_option maxRecDepth 100000 in
set_option maxHeartbeats 1600000 in
theorem sizeOf_gt {v : Bool} {h l b rh rl : Int} (hw : IntKind.i64.wrap (65536) = 65536)
    (HS : Hid (∀ w', Calls Tryz.prog 106 #[pv v h l b] w' fun e w1 => e = .returned (.tuple #[nv rh rl, .bool true, .int .i64 0]) ∧ Below w'.heap.size w' w1))
    (CM : Hid (∀ w', Calls Tryz.prog 47 #[nv rh rl, nv 0 65536] w' fun e w1 => e = .returned (.int .i64 1) ∧ Below w'.heap.size w' w1)) (w : World) :
    Calls Tryz.prog 59 #[pv v h l b] w fun e w' => e = .returned (.int .i64 (65536)) ∧ Below w.heap.size w w' := by
  have K := pfx_start w v h l b
  have OF : Hid (∀ w', Calls Tryz.prog 48 #[.int .u64 65536] w' fun e w1 => e = .returned (nv 0 65536) ∧ Below w'.heap.size w' w1) := fun w' => of_w 65536 w'
  go_enter Tryz.func59, Tryz.ntmps59
  go_wp2_with fail
  refine (HS.out _).mono ?_
  rintro e w1 ⟨rfl, hb⟩
  have K0 := (Kn.of (w := w) (W := w1) (L := []) trivial (K.below hb).bel).push (b := w1.heap.size) (cs := [.int .u64 rh, .int .u64 rl]) (t := 24) rfl
  clear HS hb K
  go_wp2_with fail
  refine wp_region_held_drew (S := (Kn w [(w1.heap.size, [.int .u64 rh, .int .u64 rl], 24)])) (by kernel_rfl) ?hS200 (fun hHeld => ?rest200)
  case hS200 => (first | with_reducible exact K0.drew | with_reducible exact hHeld.below hb4 | with_reducible exact hHeld.below hb5)
  refine wpAnyH_take (i := 0) (oi := _) (v := ?v201) (List.getElem?_toArray.trans rfl) (by kernel_rfl) (by kernel_rfl) (by kernel_rfl) (fun _ _ _ h => h) (Or.inl ⟨by rfl, ?hy201⟩) (by assumption) ?rest201
  case hy201 => (intro wq hSw; (try simp only [Two, Kn, Facts, CellsAt] at hSw); go_simp; try with_reducible rfl)
  try simp only [Act.put, List.setIfInBounds_toArray, List.set_cons_zero, List.set_cons_succ]
  refine wpAnyH_take (i := 1) (oi := _) (v := ?v202) (List.getElem?_toArray.trans rfl) (by kernel_rfl) (by kernel_rfl) (by kernel_rfl) (fun _ _ _ h => h) (Or.inl ⟨by rfl, ?hy202⟩) (by assumption) ?rest202
  case hy202 => (intro wq hSw; (try simp only [Two, Kn, Facts, CellsAt] at hSw); go_simp; try with_reducible rfl)
  try simp only [Act.put, List.setIfInBounds_toArray, List.set_cons_zero, List.set_cons_succ]
  refine wpAnyH_take (i := 2) (oi := _) (v := ?v203) (List.getElem?_toArray.trans rfl) (by kernel_rfl) (by kernel_rfl) (by kernel_rfl) (fun _ _ _ h => h) (Or.inl ⟨by rfl, ?hy203⟩) (by assumption) ?rest203
  case hy203 => (intro wq hSw; (try simp only [Two, Kn, Facts, CellsAt] at hSw); go_simp; try with_reducible rfl)
  try simp only [Act.put, List.setIfInBounds_toArray, List.set_cons_zero, List.set_cons_succ]
  refine wpAnyH_take (i := 3) (oi := _) (v := ?v204) (List.getElem?_toArray.trans rfl) (by kernel_rfl) (by kernel_rfl) (by kernel_rfl) (fun _ _ _ h => h) (Or.inl ⟨by rfl, ?hy204⟩) (by assumption) ?rest204
  case hy204 => (intro wq hSw; (try simp only [Two, Kn, Facts, CellsAt] at hSw); go_simp; try with_reducible rfl)
  try simp only [Act.put, List.setIfInBounds_toArray, List.set_cons_zero, List.set_cons_succ]
  refine wpAnyH_ready (rs := [4]) (by kernel_rfl) (by simp) ?rdy205
  refine AllReadyH.cons (List.getElem?_toArray.trans rfl) (fun K hK => ?stp205) AllReadyH.nil
  go_simp
  go_wp2_with fail
  (refine (OF.out _).mono ?_; rintro e w4 ⟨rfl, hb4⟩)
  go_wp2_with fail
  refine hK.out _ _ ?hSn205 (fun hHeld2 => ?rest205)
  case hSn205 => (first | with_reducible exact K0.drew | with_reducible exact hHeld.below hb4 | with_reducible exact hHeld.below hb5)
  clear hK K hHeld
  have hHeld := hHeld2
  clear hHeld2
  try simp only [Act.put, List.setIfInBounds_toArray, List.set_cons_zero, List.set_cons_succ]
  refine wpAnyH_ready (rs := [5]) (by kernel_rfl) (by simp) ?rdy206
  refine AllReadyH.cons (List.getElem?_toArray.trans rfl) (fun K hK => ?stp206) AllReadyH.nil
  go_simp
  go_wp2_with fail
  (refine (CM.out _).mono ?_; rintro e w5 ⟨rfl, hb5⟩; have K5 := hHeld.below hb5)
  go_wp2_with fail
  refine hK.out _ _ ?hSn206 (fun hHeld2 => ?rest206)
  case hSn206 => (first | with_reducible exact K0.drew | with_reducible exact hHeld.below hb4 | with_reducible exact hHeld.below hb5)
  clear hK K hHeld
  have hHeld := hHeld2
  clear hHeld2
  try simp only [Act.put, List.setIfInBounds_toArray, List.set_cons_zero, List.set_cons_succ]
  refine wpAnyH_take (i := 6) (oi := _) (v := ?v207) (List.getElem?_toArray.trans rfl) (by kernel_rfl) (by kernel_rfl) (by kernel_rfl) (fun _ _ _ h => h) (Or.inl ⟨by rfl, ?hy207⟩) (by assumption) ?rest207
  case hy207 => (intro wq hSw; (try simp only [Two, Kn, Facts, CellsAt] at hSw); go_simp; try with_reducible rfl)
  try simp only [Act.put, List.setIfInBounds_toArray, List.set_cons_zero, List.set_cons_succ]
  refine wpAnyH_take (i := 7) (oi := _) (v := ?v208) (List.getElem?_toArray.trans rfl) (by kernel_rfl) (by kernel_rfl) (by kernel_rfl) (fun _ _ _ h => h) (Or.inl ⟨by rfl, ?hy208⟩) (by assumption) ?rest208
  case hy208 => (intro wq hSw; (try simp only [Two, Kn, Facts, CellsAt] at hSw); go_simp; try with_reducible rfl)
  try simp only [Act.put, List.setIfInBounds_toArray, List.set_cons_zero, List.set_cons_succ]
  refine wpAnyH_done (by kernel_rfl) ?fin200 _
  have B := K5.bel
  have F := K5.1
  simp only [Facts, CellsAt] at F
  clear hHeld hb4 hb5 K0 OF CM K5
  go_wp2
  go_ret
  exact ⟨rfl, by repeat (first | with_reducible exact Below.refl _ _ | with_reducible refine Below.drew ?_ | with_reducible refine Below.alloc ?_ (by first | omega | (simp <;> omega)) _ | with_reducible refine Below.setCell ?_ (by first | omega | (simp <;> omega)) _ | with_reducible refine Below.trans ?_ (Below.mono B (by first | omega | (simp <;> omega))))⟩

set_option maxRecDepth 100000 in
set_option maxHeartbeats 1600000 in
theorem sizeOf_eq {v : Bool} {h l b rh rl : Int} (hw : IntKind.i64.wrap (rl) = rl)
    (HS : Hid (∀ w', Calls Tryz.prog 106 #[pv v h l b] w' fun e w1 => e = .returned (.tuple #[nv rh rl, .bool true, .int .i64 0]) ∧ Below w'.heap.size w' w1))
    (CM : Hid (∀ w', Calls Tryz.prog 47 #[nv rh rl, nv 0 65536] w' fun e w1 => e = .returned (.int .i64 0) ∧ Below w'.heap.size w' w1)) (w : World) :
    Calls Tryz.prog 59 #[pv v h l b] w fun e w' => e = .returned (.int .i64 (rl)) ∧ Below w.heap.size w w' := by
  have K := pfx_start w v h l b
  have OF : Hid (∀ w', Calls Tryz.prog 48 #[.int .u64 65536] w' fun e w1 => e = .returned (nv 0 65536) ∧ Below w'.heap.size w' w1) := fun w' => of_w 65536 w'
  go_enter Tryz.func59, Tryz.ntmps59
  go_wp2_with fail
  refine (HS.out _).mono ?_
  rintro e w1 ⟨rfl, hb⟩
  have K0 := (Kn.of (w := w) (W := w1) (L := []) trivial (K.below hb).bel).push (b := w1.heap.size) (cs := [.int .u64 rh, .int .u64 rl]) (t := 24) rfl
  clear HS hb K
  go_wp2_with fail
  refine wp_region_held_drew (S := (Kn w [(w1.heap.size, [.int .u64 rh, .int .u64 rl], 24)])) (by kernel_rfl) ?hS300 (fun hHeld => ?rest300)
  case hS300 => (first | with_reducible exact K0.drew | with_reducible exact hHeld.below hb4 | with_reducible exact hHeld.below hb5)
  refine wpAnyH_take (i := 0) (oi := _) (v := ?v301) (List.getElem?_toArray.trans rfl) (by kernel_rfl) (by kernel_rfl) (by kernel_rfl) (fun _ _ _ h => h) (Or.inl ⟨by rfl, ?hy301⟩) (by assumption) ?rest301
  case hy301 => (intro wq hSw; (try simp only [Two, Kn, Facts, CellsAt] at hSw); go_simp; try with_reducible rfl)
  try simp only [Act.put, List.setIfInBounds_toArray, List.set_cons_zero, List.set_cons_succ]
  refine wpAnyH_take (i := 1) (oi := _) (v := ?v302) (List.getElem?_toArray.trans rfl) (by kernel_rfl) (by kernel_rfl) (by kernel_rfl) (fun _ _ _ h => h) (Or.inl ⟨by rfl, ?hy302⟩) (by assumption) ?rest302
  case hy302 => (intro wq hSw; (try simp only [Two, Kn, Facts, CellsAt] at hSw); go_simp; try with_reducible rfl)
  try simp only [Act.put, List.setIfInBounds_toArray, List.set_cons_zero, List.set_cons_succ]
  refine wpAnyH_take (i := 2) (oi := _) (v := ?v303) (List.getElem?_toArray.trans rfl) (by kernel_rfl) (by kernel_rfl) (by kernel_rfl) (fun _ _ _ h => h) (Or.inl ⟨by rfl, ?hy303⟩) (by assumption) ?rest303
  case hy303 => (intro wq hSw; (try simp only [Two, Kn, Facts, CellsAt] at hSw); go_simp; try with_reducible rfl)
  try simp only [Act.put, List.setIfInBounds_toArray, List.set_cons_zero, List.set_cons_succ]
  refine wpAnyH_take (i := 3) (oi := _) (v := ?v304) (List.getElem?_toArray.trans rfl) (by kernel_rfl) (by kernel_rfl) (by kernel_rfl) (fun _ _ _ h => h) (Or.inl ⟨by rfl, ?hy304⟩) (by assumption) ?rest304
  case hy304 => (intro wq hSw; (try simp only [Two, Kn, Facts, CellsAt] at hSw); go_simp; try with_reducible rfl)
  try simp only [Act.put, List.setIfInBounds_toArray, List.set_cons_zero, List.set_cons_succ]
  refine wpAnyH_ready (rs := [4]) (by kernel_rfl) (by simp) ?rdy305
  refine AllReadyH.cons (List.getElem?_toArray.trans rfl) (fun K hK => ?stp305) AllReadyH.nil
  go_simp
  go_wp2_with fail
  (refine (OF.out _).mono ?_; rintro e w4 ⟨rfl, hb4⟩)
  go_wp2_with fail
  refine hK.out _ _ ?hSn305 (fun hHeld2 => ?rest305)
  case hSn305 => (first | with_reducible exact K0.drew | with_reducible exact hHeld.below hb4 | with_reducible exact hHeld.below hb5)
  clear hK K hHeld
  have hHeld := hHeld2
  clear hHeld2
  try simp only [Act.put, List.setIfInBounds_toArray, List.set_cons_zero, List.set_cons_succ]
  refine wpAnyH_ready (rs := [5]) (by kernel_rfl) (by simp) ?rdy306
  refine AllReadyH.cons (List.getElem?_toArray.trans rfl) (fun K hK => ?stp306) AllReadyH.nil
  go_simp
  go_wp2_with fail
  (refine (CM.out _).mono ?_; rintro e w5 ⟨rfl, hb5⟩; have K5 := hHeld.below hb5)
  go_wp2_with fail
  refine hK.out _ _ ?hSn306 (fun hHeld2 => ?rest306)
  case hSn306 => (first | with_reducible exact K0.drew | with_reducible exact hHeld.below hb4 | with_reducible exact hHeld.below hb5)
  clear hK K hHeld
  have hHeld := hHeld2
  clear hHeld2
  try simp only [Act.put, List.setIfInBounds_toArray, List.set_cons_zero, List.set_cons_succ]
  refine wpAnyH_take (i := 6) (oi := _) (v := ?v307) (List.getElem?_toArray.trans rfl) (by kernel_rfl) (by kernel_rfl) (by kernel_rfl) (fun _ _ _ h => h) (Or.inl ⟨by rfl, ?hy307⟩) (by assumption) ?rest307
  case hy307 => (intro wq hSw; (try simp only [Two, Kn, Facts, CellsAt] at hSw); go_simp; try with_reducible rfl)
  try simp only [Act.put, List.setIfInBounds_toArray, List.set_cons_zero, List.set_cons_succ]
  refine wpAnyH_take (i := 7) (oi := _) (v := ?v308) (List.getElem?_toArray.trans rfl) (by kernel_rfl) (by kernel_rfl) (by kernel_rfl) (fun _ _ _ h => h) (Or.inl ⟨by rfl, ?hy308⟩) (by assumption) ?rest308
  case hy308 => (intro wq hSw; (try simp only [Two, Kn, Facts, CellsAt] at hSw); go_simp; try with_reducible rfl)
  try simp only [Act.put, List.setIfInBounds_toArray, List.set_cons_zero, List.set_cons_succ]
  refine wpAnyH_done (by kernel_rfl) ?fin300 _
  have B := K5.bel
  have F := K5.1
  simp only [Facts, CellsAt] at F
  clear hHeld hb4 hb5 K0 OF CM K5
  go_wp2
  go_ret
  exact ⟨rfl, by repeat (first | with_reducible exact Below.refl _ _ | with_reducible refine Below.drew ?_ | with_reducible refine Below.alloc ?_ (by first | omega | (simp <;> omega)) _ | with_reducible refine Below.setCell ?_ (by first | omega | (simp <;> omega)) _ | with_reducible refine Below.trans ?_ (Below.mono B (by first | omega | (simp <;> omega))))⟩

set_option maxRecDepth 100000 in
set_option maxHeartbeats 1600000 in
theorem sizeOf_lt {v : Bool} {h l b rh rl : Int} (hw : IntKind.i64.wrap (rl) = rl)
    (HS : Hid (∀ w', Calls Tryz.prog 106 #[pv v h l b] w' fun e w1 => e = .returned (.tuple #[nv rh rl, .bool true, .int .i64 0]) ∧ Below w'.heap.size w' w1))
    (CM : Hid (∀ w', Calls Tryz.prog 47 #[nv rh rl, nv 0 65536] w' fun e w1 => e = .returned (.int .i64 (-1)) ∧ Below w'.heap.size w' w1)) (w : World) :
    Calls Tryz.prog 59 #[pv v h l b] w fun e w' => e = .returned (.int .i64 (rl)) ∧ Below w.heap.size w w' := by
  have K := pfx_start w v h l b
  have OF : Hid (∀ w', Calls Tryz.prog 48 #[.int .u64 65536] w' fun e w1 => e = .returned (nv 0 65536) ∧ Below w'.heap.size w' w1) := fun w' => of_w 65536 w'
  go_enter Tryz.func59, Tryz.ntmps59
  go_wp2_with fail
  refine (HS.out _).mono ?_
  rintro e w1 ⟨rfl, hb⟩
  have K0 := (Kn.of (w := w) (W := w1) (L := []) trivial (K.below hb).bel).push (b := w1.heap.size) (cs := [.int .u64 rh, .int .u64 rl]) (t := 24) rfl
  clear HS hb K
  go_wp2_with fail
  refine wp_region_held_drew (S := (Kn w [(w1.heap.size, [.int .u64 rh, .int .u64 rl], 24)])) (by kernel_rfl) ?hS400 (fun hHeld => ?rest400)
  case hS400 => (first | with_reducible exact K0.drew | with_reducible exact hHeld.below hb4 | with_reducible exact hHeld.below hb5)
  refine wpAnyH_take (i := 0) (oi := _) (v := ?v401) (List.getElem?_toArray.trans rfl) (by kernel_rfl) (by kernel_rfl) (by kernel_rfl) (fun _ _ _ h => h) (Or.inl ⟨by rfl, ?hy401⟩) (by assumption) ?rest401
  case hy401 => (intro wq hSw; (try simp only [Two, Kn, Facts, CellsAt] at hSw); go_simp; try with_reducible rfl)
  try simp only [Act.put, List.setIfInBounds_toArray, List.set_cons_zero, List.set_cons_succ]
  refine wpAnyH_take (i := 1) (oi := _) (v := ?v402) (List.getElem?_toArray.trans rfl) (by kernel_rfl) (by kernel_rfl) (by kernel_rfl) (fun _ _ _ h => h) (Or.inl ⟨by rfl, ?hy402⟩) (by assumption) ?rest402
  case hy402 => (intro wq hSw; (try simp only [Two, Kn, Facts, CellsAt] at hSw); go_simp; try with_reducible rfl)
  try simp only [Act.put, List.setIfInBounds_toArray, List.set_cons_zero, List.set_cons_succ]
  refine wpAnyH_take (i := 2) (oi := _) (v := ?v403) (List.getElem?_toArray.trans rfl) (by kernel_rfl) (by kernel_rfl) (by kernel_rfl) (fun _ _ _ h => h) (Or.inl ⟨by rfl, ?hy403⟩) (by assumption) ?rest403
  case hy403 => (intro wq hSw; (try simp only [Two, Kn, Facts, CellsAt] at hSw); go_simp; try with_reducible rfl)
  try simp only [Act.put, List.setIfInBounds_toArray, List.set_cons_zero, List.set_cons_succ]
  refine wpAnyH_take (i := 3) (oi := _) (v := ?v404) (List.getElem?_toArray.trans rfl) (by kernel_rfl) (by kernel_rfl) (by kernel_rfl) (fun _ _ _ h => h) (Or.inl ⟨by rfl, ?hy404⟩) (by assumption) ?rest404
  case hy404 => (intro wq hSw; (try simp only [Two, Kn, Facts, CellsAt] at hSw); go_simp; try with_reducible rfl)
  try simp only [Act.put, List.setIfInBounds_toArray, List.set_cons_zero, List.set_cons_succ]
  refine wpAnyH_ready (rs := [4]) (by kernel_rfl) (by simp) ?rdy405
  refine AllReadyH.cons (List.getElem?_toArray.trans rfl) (fun K hK => ?stp405) AllReadyH.nil
  go_simp
  go_wp2_with fail
  (refine (OF.out _).mono ?_; rintro e w4 ⟨rfl, hb4⟩)
  go_wp2_with fail
  refine hK.out _ _ ?hSn405 (fun hHeld2 => ?rest405)
  case hSn405 => (first | with_reducible exact K0.drew | with_reducible exact hHeld.below hb4 | with_reducible exact hHeld.below hb5)
  clear hK K hHeld
  have hHeld := hHeld2
  clear hHeld2
  try simp only [Act.put, List.setIfInBounds_toArray, List.set_cons_zero, List.set_cons_succ]
  refine wpAnyH_ready (rs := [5]) (by kernel_rfl) (by simp) ?rdy406
  refine AllReadyH.cons (List.getElem?_toArray.trans rfl) (fun K hK => ?stp406) AllReadyH.nil
  go_simp
  go_wp2_with fail
  (refine (CM.out _).mono ?_; rintro e w5 ⟨rfl, hb5⟩; have K5 := hHeld.below hb5)
  go_wp2_with fail
  refine hK.out _ _ ?hSn406 (fun hHeld2 => ?rest406)
  case hSn406 => (first | with_reducible exact K0.drew | with_reducible exact hHeld.below hb4 | with_reducible exact hHeld.below hb5)
  clear hK K hHeld
  have hHeld := hHeld2
  clear hHeld2
  try simp only [Act.put, List.setIfInBounds_toArray, List.set_cons_zero, List.set_cons_succ]
  refine wpAnyH_take (i := 6) (oi := _) (v := ?v407) (List.getElem?_toArray.trans rfl) (by kernel_rfl) (by kernel_rfl) (by kernel_rfl) (fun _ _ _ h => h) (Or.inl ⟨by rfl, ?hy407⟩) (by assumption) ?rest407
  case hy407 => (intro wq hSw; (try simp only [Two, Kn, Facts, CellsAt] at hSw); go_simp; try with_reducible rfl)
  try simp only [Act.put, List.setIfInBounds_toArray, List.set_cons_zero, List.set_cons_succ]
  refine wpAnyH_take (i := 7) (oi := _) (v := ?v408) (List.getElem?_toArray.trans rfl) (by kernel_rfl) (by kernel_rfl) (by kernel_rfl) (fun _ _ _ h => h) (Or.inl ⟨by rfl, ?hy408⟩) (by assumption) ?rest408
  case hy408 => (intro wq hSw; (try simp only [Two, Kn, Facts, CellsAt] at hSw); go_simp; try with_reducible rfl)
  try simp only [Act.put, List.setIfInBounds_toArray, List.set_cons_zero, List.set_cons_succ]
  refine wpAnyH_done (by kernel_rfl) ?fin400 _
  have B := K5.bel
  have F := K5.1
  simp only [Facts, CellsAt] at F
  clear hHeld hb4 hb5 K0 OF CM K5
  go_wp2
  go_ret
  exact ⟨rfl, by repeat (first | with_reducible exact Below.refl _ _ | with_reducible refine Below.drew ?_ | with_reducible refine Below.alloc ?_ (by first | omega | (simp <;> omega)) _ | with_reducible refine Below.setCell ?_ (by first | omega | (simp <;> omega)) _ | with_reducible refine Below.trans ?_ (Below.mono B (by first | omega | (simp <;> omega))))⟩

theorem sizeOf_c {v : Bool} {h l b : Int} {n : Nat} (hp : IsNum h l n) (w : World) :
    Calls Tryz.prog 59 #[pv v h l b] w fun e w' => e = .returned (.int .i64 (szP v n b : Nat)) ∧ Below w.heap.size w w' := by
  obtain ⟨W, hW⟩ : ∃ W, widthA v = W := ⟨_, rfl⟩
  cases kp : okP v n b
  · have hc : cutB v n b W = false := by unfold cutB; rw [kp]; rfl
    have e : szP v n b = 0 := by unfold szP; rw [kp]; rfl
    rw [e]
    exact sizeOf_no (fun w' => hosts_any hW (fun w1 => blks_no hp hc w1) w') w
  · obtain ⟨_, b0, b1⟩ := fitsB_parts (okP_parts kp).1
    have hc : cutB v n b W = true := by
      unfold cutB; rw [kp, decide_eq_true (by omega : b ≤ W), decide_eq_true (by omega : W ≤ widthA v)]; rfl
    have eb : behindP v b = (W - b).toNat := by unfold behindP; rw [hW]
    have b128 := behindP_le (v := v) b0
    rw [eb] at b128
    obtain ⟨rh, rl, t, hr⟩ := countIs_ex b128
    have HS : Hid (∀ w', Calls Tryz.prog 106 #[pv v h l b] w' fun e w1 => e = .returned (.tuple #[nv rh rl, .bool t, .int .i64 0]) ∧ Below w'.heap.size w' w1) := fun w' => hosts_any hW (fun w1 => blks_ok hp hc hr w1) w'
    have n6 : IsNum 0 65536 65536 := ⟨by omega, by omega, by omega, by omega, rfl⟩
    unfold szP
    rw [if_pos kp, eb]
    rcases hr with ⟨k1, rfl, k3⟩ | ⟨k1, rfl, rfl, rfl⟩
    · by_cases c : (W - b).toNat ≤ 16
      · rw [if_pos c]
        have le := Nat.pow_le_pow_right (n := 2) (by decide) c
        rw [show (2 : Nat) ^ 16 = 65536 by decide] at le
        obtain ⟨Q, hQ⟩ : ∃ Q, 2 ^ (W - b).toNat = Q := ⟨_, rfl⟩
        rw [hQ] at le k3 ⊢
        have hl : rl = (Q : Int) ∧ rh = 0 := by
          obtain ⟨x1, x2, x3, x4, x5⟩ := k3
          omega
        have hl1 := hl.1
        have hw : IntKind.i64.wrap rl = rl := by simp [IntKind.wrap, IntKind.bits, IntKind.signed]; omega
        rw [← hl.1]
        rcases Nat.lt_or_eq_of_le le with lt | eq
        · exact sizeOf_lt hw HS (fun w' => num_cmp k3 n6 (cmpI_lt (by omega)).symm w') w
        · exact sizeOf_eq hw HS (fun w' => num_cmp k3 n6 (cmpI_eq (by omega)).symm w') w
      · rw [if_neg c]
        have le := Nat.pow_le_pow_right (n := 2) (by decide) (show 17 ≤ (W - b).toNat by omega)
        rw [show (2 : Nat) ^ 17 = 131072 by decide] at le
        exact sizeOf_gt (by decide) HS (fun w' => num_cmp k3 n6 (cmpI_gt (by omega)).symm w') w
    · rw [if_neg (by omega)]
      exact sizeOf_out HS w

set_option maxRecDepth 100000 in
set_option maxHeartbeats 3200000 in
theorem host_w {v : Bool} {h l b i rh rl : Int} {a x : Nat} (hi : IntKind.u64.wrap i = i)
    (HO : Hid (∀ w', Calls Tryz.prog 116 #[pv v h l b, nv 0 i] w' fun e w1 => e = .returned (.tuple #[av v rh rl, .int .i64 0]) ∧ Below w'.heap.size w' w1)) (w : World)
    (hx : Blk w x #[.bool v, .int .u64 h, .int .u64 l, .int .i64 b, .pointer (some ⟨a, 0, none⟩)] 90) :
    Calls Tryz.prog 72 #[.pointer (some ⟨x, 0, none⟩), .int .i64 i] w fun e w' => e = .returned (av v rh rl) ∧ Below w.heap.size w w' := by
  have OF : Hid (∀ w', Calls Tryz.prog 48 #[.int .u64 i] w' fun e w1 => e = .returned (nv 0 i) ∧ Below w'.heap.size w' w1) := fun w' => of_w i w'
  have R0 : Kn w [(w.heap.size, [.bool false, .int .u64 0, .int .u64 0], 26), (x, [.bool v, .int .u64 h, .int .u64 l, .int .i64 b, .pointer (some ⟨a, 0, none⟩)], 90)] (w.alloc (.cells #[.bool false, .int .u64 0, .int .u64 0] 26)) := ((Kn.nil w).cons hx).push rfl
  have hxl := hx.lt
  obtain ⟨w0, hw0⟩ : ∃ w0, w0 = w.alloc (.cells #[.bool false, .int .u64 0, .int .u64 0] 26) := ⟨_, rfl⟩
  rw [← hw0] at R0
  have LT := R0.lts
  simp only [Lts] at LT
  have hs0 := R0.bel.size
  clear hx
  go_enter Tryz.func72, Tryz.ntmps72
  go_upto_region 1 with fail
  rw [← hw0]
  clear hw0
  go_cut [5, 6] (fun p t wc => ∃ X : Nat, p = .pointer (some ⟨X, 0, none⟩) ∧ t = .int .i64 0 ∧ w.heap.size < X ∧ Blk wc X #[.bool v, .int .u64 rh, .int .u64 rl] 26 ∧ Kn w [(w.heap.size, [.bool false, .int .u64 0, .int .u64 0], 26), (x, [.bool v, .int .u64 h, .int .u64 l, .int .i64 b, .pointer (some ⟨a, 0, none⟩)], 90)] wc)
  case first =>
    refine wp_region_held_drew (S := (Kn w [(w.heap.size, [.bool false, .int .u64 0, .int .u64 0], 26), (x, [.bool v, .int .u64 h, .int .u64 l, .int .i64 b, .pointer (some ⟨a, 0, none⟩)], 90)])) (by kernel_rfl) ?hS5001 (fun hHeld => ?rest5001)
    case hS5001 => (first | with_reducible exact R0.drew | with_reducible exact (R0.alloc _).drew | with_reducible exact hHeld.below hb4 | with_reducible exact hHeld.below hb5 | with_reducible exact hHeld.alloc _ | with_reducible exact K5.alloc _ | with_reducible exact hHeld.far3 (by simp only [Off]; repeat' (first | exact trivial | refine And.intro ?_ ?_ | omega)) (by omega) _ _ _ | with_reducible exact K5.far3 (by simp only [Off]; repeat' (first | exact trivial | refine And.intro ?_ ?_ | omega)) (by omega) _ _ _ | with_reducible exact (K5.alloc _).far3 (by simp only [Off]; repeat' (first | exact trivial | refine And.intro ?_ ?_ | omega)) (by omega) _ _ _)
    refine wpAnyH_take (i := 0) (oi := _) (v := ?v5002) (List.getElem?_toArray.trans rfl) (by kernel_rfl) (by kernel_rfl) (by kernel_rfl) (fun _ _ _ h => h) (Or.inl ⟨by rfl, ?hy5002⟩) (by assumption) ?rest5002
    case hy5002 => (intro wq hSw; (try simp only [Two, Kn, Facts, CellsAt] at hSw); go_simp; try with_reducible rfl)
    try simp only [Act.put, List.setIfInBounds_toArray, List.set_cons_zero, List.set_cons_succ]
    refine wpAnyH_take (i := 1) (oi := _) (v := ?v5003) (List.getElem?_toArray.trans rfl) (by kernel_rfl) (by kernel_rfl) (by kernel_rfl) (fun _ _ _ h => h) (Or.inl ⟨by rfl, ?hy5003⟩) (by assumption) ?rest5003
    case hy5003 => (intro wq hSw; (try simp only [Two, Kn, Facts, CellsAt] at hSw); go_simp; try with_reducible rfl)
    try simp only [Act.put, List.setIfInBounds_toArray, List.set_cons_zero, List.set_cons_succ]
    refine wpAnyH_take (i := 2) (oi := _) (v := ?v5004) (List.getElem?_toArray.trans rfl) (by kernel_rfl) (by kernel_rfl) (by kernel_rfl) (fun _ _ _ h => h) (Or.inl ⟨by rfl, ?hy5004⟩) (by assumption) ?rest5004
    case hy5004 => (intro wq hSw; (try simp only [Two, Kn, Facts, CellsAt] at hSw); go_simp; try with_reducible rfl)
    try simp only [Act.put, List.setIfInBounds_toArray, List.set_cons_zero, List.set_cons_succ]
    refine wpAnyH_take (i := 3) (oi := _) (v := ?v5005) (List.getElem?_toArray.trans rfl) (by kernel_rfl) (by kernel_rfl) (by kernel_rfl) (fun _ _ _ h => h) (Or.inl ⟨by rfl, ?hy5005⟩) (by assumption) ?rest5005
    case hy5005 => (intro wq hSw; (try simp only [Two, Kn, Facts, CellsAt] at hSw); go_simp; try with_reducible rfl)
    try simp only [Act.put, List.setIfInBounds_toArray, List.set_cons_zero, List.set_cons_succ]
    refine wpAnyH_take (i := 4) (oi := _) (v := ?v5006) (List.getElem?_toArray.trans rfl) (by kernel_rfl) (by kernel_rfl) (by kernel_rfl) (fun _ _ _ h => h) (Or.inl ⟨by rfl, ?hy5006⟩) (by assumption) ?rest5006
    case hy5006 => (intro wq hSw; (try simp only [Two, Kn, Facts, CellsAt] at hSw); go_simp; try with_reducible rfl)
    try simp only [Act.put, List.setIfInBounds_toArray, List.set_cons_zero, List.set_cons_succ]
    refine wpAnyH_take (i := 5) (oi := _) (v := ?v5007) (List.getElem?_toArray.trans rfl) (by kernel_rfl) (by kernel_rfl) (by kernel_rfl) (fun _ _ _ h => h) (Or.inl ⟨by rfl, ?hy5007⟩) (by assumption) ?rest5007
    case hy5007 => (intro wq hSw; (try simp only [Two, Kn, Facts, CellsAt] at hSw); go_simp; try with_reducible rfl)
    try simp only [Act.put, List.setIfInBounds_toArray, List.set_cons_zero, List.set_cons_succ]
    refine wpAnyH_ready (rs := [6, 11]) (by kernel_rfl) (by simp) ?rdy5008
    refine (AllReadyH.cons (List.getElem?_toArray.trans rfl) (fun K hK => ?stp5008_6) (AllReadyH.cons (List.getElem?_toArray.trans rfl) (fun K hK => ?stp5008_11) AllReadyH.nil))
    case stp5008_6 =>
      go_simp
      go_wp2_with fail
      (refine (OF.out _).mono ?_; rintro e w4 ⟨rfl, hb4⟩; have s4 : w0.heap.size ≤ w4.heap.size := (by have := hb4.size; first | exact this | (simp at this; omega)); first | (have U4 : Blk w4 w0.heap.size #[.bool false, .int .u64 0, .int .u64 0] 26 := Blk.via hb4 (Blk.new w0 #[.bool false, .int .u64 0, .int .u64 0] 26) rfl; obtain ⟨u0, u1, u2, u3, u4, u5, u6⟩ := U4.three) | skip)
      go_wp2_with fail
      refine hK.out _ _ ?hSn5009 (fun hHeld2 => ?rest5009)
      case hSn5009 => (first | with_reducible exact R0.drew | with_reducible exact (R0.alloc _).drew | with_reducible exact hHeld.below hb4 | with_reducible exact hHeld.below hb5 | with_reducible exact hHeld.alloc _ | with_reducible exact K5.alloc _ | with_reducible exact hHeld.far3 (by simp only [Off]; repeat' (first | exact trivial | refine And.intro ?_ ?_ | omega)) (by omega) _ _ _ | with_reducible exact K5.far3 (by simp only [Off]; repeat' (first | exact trivial | refine And.intro ?_ ?_ | omega)) (by omega) _ _ _ | with_reducible exact (K5.alloc _).far3 (by simp only [Off]; repeat' (first | exact trivial | refine And.intro ?_ ?_ | omega)) (by omega) _ _ _)
      clear hK K hHeld
      have hHeld := hHeld2
      clear hHeld2
      try simp only [Act.put, List.setIfInBounds_toArray, List.set_cons_zero, List.set_cons_succ]
      refine wpAnyH_ready (rs := [7, 11]) (by kernel_rfl) (by simp) ?rdy5010
      refine (AllReadyH.cons (List.getElem?_toArray.trans rfl) (fun K hK => ?stp5010_7) (AllReadyH.cons (List.getElem?_toArray.trans rfl) (fun K hK => ?stp5010_11) AllReadyH.nil))
      case stp5010_7 =>
        go_simp
        go_wp2_with fail
        (refine (HO.out _).mono ?_; rintro e w5 ⟨rfl, hb5⟩; have K5 := hHeld.below hb5; have s5 : w4.heap.size ≤ w5.heap.size := (by have := hb5.size; first | exact this | (simp at this; omega)); first | (have U5 := U4.below hb5; obtain ⟨a0, a1, a2, a3, a4, a5, a6⟩ := U5.three) | (have U5 : Blk w5 w4.heap.size #[.bool false, .int .u64 0, .int .u64 0] 26 := Blk.via hb5 (Blk.new w4 #[.bool false, .int .u64 0, .int .u64 0] 26) rfl; obtain ⟨p0, p1, p2, p3, p4, p5, p6⟩ := U5.three) | skip)
        go_wp2_with fail
        refine hK.out _ _ ?hSn5011 (fun hHeld2 => ?rest5011)
        case hSn5011 => (first | with_reducible exact R0.drew | with_reducible exact (R0.alloc _).drew | with_reducible exact hHeld.below hb4 | with_reducible exact hHeld.below hb5 | with_reducible exact hHeld.alloc _ | with_reducible exact K5.alloc _ | with_reducible exact hHeld.far3 (by simp only [Off]; repeat' (first | exact trivial | refine And.intro ?_ ?_ | omega)) (by omega) _ _ _ | with_reducible exact K5.far3 (by simp only [Off]; repeat' (first | exact trivial | refine And.intro ?_ ?_ | omega)) (by omega) _ _ _ | with_reducible exact (K5.alloc _).far3 (by simp only [Off]; repeat' (first | exact trivial | refine And.intro ?_ ?_ | omega)) (by omega) _ _ _)
        clear hK K hHeld
        have hHeld := hHeld2
        clear hHeld2
        try simp only [Act.put, List.setIfInBounds_toArray, List.set_cons_zero, List.set_cons_succ]
        refine wpAnyH_take (i := 8) (oi := _) (v := ?v5012) (List.getElem?_toArray.trans rfl) (by kernel_rfl) (by kernel_rfl) (by kernel_rfl) (fun _ _ _ h => h) (Or.inl ⟨by rfl, ?hy5012⟩) (by assumption) ?rest5012
        case hy5012 => (intro wq hSw; (try simp only [Two, Kn, Facts, CellsAt] at hSw); go_simp; try with_reducible rfl)
        try simp only [Act.put, List.setIfInBounds_toArray, List.set_cons_zero, List.set_cons_succ]
        refine wpAnyH_take (i := 9) (oi := _) (v := ?v5013) (List.getElem?_toArray.trans rfl) (by kernel_rfl) (by kernel_rfl) (by kernel_rfl) (fun _ _ _ h => h) (Or.inl ⟨by rfl, ?hy5013⟩) (by assumption) ?rest5013
        case hy5013 => (intro wq hSw; (try simp only [Two, Kn, Facts, CellsAt] at hSw); go_simp; try with_reducible rfl)
        try simp only [Act.put, List.setIfInBounds_toArray, List.set_cons_zero, List.set_cons_succ]
        refine wpAnyH_take (i := 10) (oi := _) (v := ?v5014) (List.getElem?_toArray.trans rfl) (by kernel_rfl) (by kernel_rfl) (by kernel_rfl) (fun _ _ _ h => h) (Or.inl ⟨by rfl, ?hy5014⟩) (by assumption) ?rest5014
        case hy5014 => (intro wq hSw; (try simp only [Two, Kn, Facts, CellsAt] at hSw); go_simp; try with_reducible rfl)
        try simp only [Act.put, List.setIfInBounds_toArray, List.set_cons_zero, List.set_cons_succ]
        refine wpAnyH_ready (rs := [11]) (by kernel_rfl) (by simp) ?rdy5015
        refine (AllReadyH.cons (List.getElem?_toArray.trans rfl) (fun K hK => ?stp5015_11) AllReadyH.nil)
        case stp5015_11 =>
          go_simp
          go_wp2_with fail
          refine hK.out _ _ ?hSn5016 (fun hHeld2 => ?rest5016)
          case hSn5016 => (first | with_reducible exact R0.drew | with_reducible exact (R0.alloc _).drew | with_reducible exact hHeld.below hb4 | with_reducible exact hHeld.below hb5 | with_reducible exact hHeld.alloc _ | with_reducible exact K5.alloc _ | with_reducible exact hHeld.far3 (by simp only [Off]; repeat' (first | exact trivial | refine And.intro ?_ ?_ | omega)) (by omega) _ _ _ | with_reducible exact K5.far3 (by simp only [Off]; repeat' (first | exact trivial | refine And.intro ?_ ?_ | omega)) (by omega) _ _ _ | with_reducible exact (K5.alloc _).far3 (by simp only [Off]; repeat' (first | exact trivial | refine And.intro ?_ ?_ | omega)) (by omega) _ _ _)
          clear hK K hHeld
          have hHeld := hHeld2
          clear hHeld2
          try simp only [Act.put, List.setIfInBounds_toArray, List.set_cons_zero, List.set_cons_succ]
          refine wpAnyH_ready (rs := [12]) (by kernel_rfl) (by simp) ?rdy5017
          refine (AllReadyH.cons (List.getElem?_toArray.trans rfl) (fun K hK => ?stp5017_12) AllReadyH.nil)
          case stp5017_12 =>
            go_simp
            go_wp2_with fail
            refine hK.out _ _ ?hSn5018 (fun hHeld2 => ?rest5018)
            case hSn5018 => (first | with_reducible exact R0.drew | with_reducible exact (R0.alloc _).drew | with_reducible exact hHeld.below hb4 | with_reducible exact hHeld.below hb5 | with_reducible exact hHeld.alloc _ | with_reducible exact K5.alloc _ | with_reducible exact hHeld.far3 (by simp only [Off]; repeat' (first | exact trivial | refine And.intro ?_ ?_ | omega)) (by omega) _ _ _ | with_reducible exact K5.far3 (by simp only [Off]; repeat' (first | exact trivial | refine And.intro ?_ ?_ | omega)) (by omega) _ _ _ | with_reducible exact (K5.alloc _).far3 (by simp only [Off]; repeat' (first | exact trivial | refine And.intro ?_ ?_ | omega)) (by omega) _ _ _)
            clear hK K hHeld
            have hHeld := hHeld2
            clear hHeld2
            try simp only [Act.put, List.setIfInBounds_toArray, List.set_cons_zero, List.set_cons_succ]
            refine wpAnyH_take (i := 13) (oi := _) (v := ?v5019) (List.getElem?_toArray.trans rfl) (by kernel_rfl) (by kernel_rfl) (by kernel_rfl) (fun _ _ _ h => h) (Or.inl ⟨by rfl, ?hy5019⟩) (by assumption) ?rest5019
            case hy5019 => (intro wq hSw; (try simp only [Two, Kn, Facts, CellsAt] at hSw); go_simp; try with_reducible rfl)
            try simp only [Act.put, List.setIfInBounds_toArray, List.set_cons_zero, List.set_cons_succ]
            refine wpAnyH_done (by kernel_rfl) ?_ _
            go_wp2_with fail
            go_meet
            case rel => exact ⟨_, rfl, rfl, (by omega), (by repeat (first | with_reducible exact Blk.new _ _ _ | with_reducible exact U5 | with_reducible refine Blk.put3 (x := .bool false) (y := .int .u64 0) (z := .int .u64 0) ?_ _ _ _)), hHeld⟩
      case stp5010_11 =>
        go_simp
        go_wp2_with fail
        refine hK.out _ _ ?hSn5020 (fun hHeld2 => ?rest5020)
        case hSn5020 => (first | with_reducible exact R0.drew | with_reducible exact (R0.alloc _).drew | with_reducible exact hHeld.below hb4 | with_reducible exact hHeld.below hb5 | with_reducible exact hHeld.alloc _ | with_reducible exact K5.alloc _ | with_reducible exact hHeld.far3 (by simp only [Off]; repeat' (first | exact trivial | refine And.intro ?_ ?_ | omega)) (by omega) _ _ _ | with_reducible exact K5.far3 (by simp only [Off]; repeat' (first | exact trivial | refine And.intro ?_ ?_ | omega)) (by omega) _ _ _ | with_reducible exact (K5.alloc _).far3 (by simp only [Off]; repeat' (first | exact trivial | refine And.intro ?_ ?_ | omega)) (by omega) _ _ _)
        clear hK K hHeld
        have hHeld := hHeld2
        clear hHeld2
        try simp only [Act.put, List.setIfInBounds_toArray, List.set_cons_zero, List.set_cons_succ]
        refine wpAnyH_ready (rs := [7]) (by kernel_rfl) (by simp) ?rdy5021
        refine (AllReadyH.cons (List.getElem?_toArray.trans rfl) (fun K hK => ?stp5021_7) AllReadyH.nil)
        case stp5021_7 =>
          go_simp
          go_wp2_with fail
          (refine (HO.out _).mono ?_; rintro e w5 ⟨rfl, hb5⟩; have K5 := hHeld.below hb5; have s5 : w4.heap.size ≤ w5.heap.size := (by have := hb5.size; first | exact this | (simp at this; omega)); first | (have U5 := U4.below hb5; obtain ⟨a0, a1, a2, a3, a4, a5, a6⟩ := U5.three) | (have U5 : Blk w5 w4.heap.size #[.bool false, .int .u64 0, .int .u64 0] 26 := Blk.via hb5 (Blk.new w4 #[.bool false, .int .u64 0, .int .u64 0] 26) rfl; obtain ⟨p0, p1, p2, p3, p4, p5, p6⟩ := U5.three) | skip)
          go_wp2_with fail
          refine hK.out _ _ ?hSn5022 (fun hHeld2 => ?rest5022)
          case hSn5022 => (first | with_reducible exact R0.drew | with_reducible exact (R0.alloc _).drew | with_reducible exact hHeld.below hb4 | with_reducible exact hHeld.below hb5 | with_reducible exact hHeld.alloc _ | with_reducible exact K5.alloc _ | with_reducible exact hHeld.far3 (by simp only [Off]; repeat' (first | exact trivial | refine And.intro ?_ ?_ | omega)) (by omega) _ _ _ | with_reducible exact K5.far3 (by simp only [Off]; repeat' (first | exact trivial | refine And.intro ?_ ?_ | omega)) (by omega) _ _ _ | with_reducible exact (K5.alloc _).far3 (by simp only [Off]; repeat' (first | exact trivial | refine And.intro ?_ ?_ | omega)) (by omega) _ _ _)
          clear hK K hHeld
          have hHeld := hHeld2
          clear hHeld2
          try simp only [Act.put, List.setIfInBounds_toArray, List.set_cons_zero, List.set_cons_succ]
          refine wpAnyH_take (i := 8) (oi := _) (v := ?v5023) (List.getElem?_toArray.trans rfl) (by kernel_rfl) (by kernel_rfl) (by kernel_rfl) (fun _ _ _ h => h) (Or.inl ⟨by rfl, ?hy5023⟩) (by assumption) ?rest5023
          case hy5023 => (intro wq hSw; (try simp only [Two, Kn, Facts, CellsAt] at hSw); go_simp; try with_reducible rfl)
          try simp only [Act.put, List.setIfInBounds_toArray, List.set_cons_zero, List.set_cons_succ]
          refine wpAnyH_take (i := 9) (oi := _) (v := ?v5024) (List.getElem?_toArray.trans rfl) (by kernel_rfl) (by kernel_rfl) (by kernel_rfl) (fun _ _ _ h => h) (Or.inl ⟨by rfl, ?hy5024⟩) (by assumption) ?rest5024
          case hy5024 => (intro wq hSw; (try simp only [Two, Kn, Facts, CellsAt] at hSw); go_simp; try with_reducible rfl)
          try simp only [Act.put, List.setIfInBounds_toArray, List.set_cons_zero, List.set_cons_succ]
          refine wpAnyH_take (i := 10) (oi := _) (v := ?v5025) (List.getElem?_toArray.trans rfl) (by kernel_rfl) (by kernel_rfl) (by kernel_rfl) (fun _ _ _ h => h) (Or.inl ⟨by rfl, ?hy5025⟩) (by assumption) ?rest5025
          case hy5025 => (intro wq hSw; (try simp only [Two, Kn, Facts, CellsAt] at hSw); go_simp; try with_reducible rfl)
          try simp only [Act.put, List.setIfInBounds_toArray, List.set_cons_zero, List.set_cons_succ]
          refine wpAnyH_ready (rs := [12]) (by kernel_rfl) (by simp) ?rdy5026
          refine (AllReadyH.cons (List.getElem?_toArray.trans rfl) (fun K hK => ?stp5026_12) AllReadyH.nil)
          case stp5026_12 =>
            go_simp
            go_wp2_with fail
            refine hK.out _ _ ?hSn5027 (fun hHeld2 => ?rest5027)
            case hSn5027 => (first | with_reducible exact R0.drew | with_reducible exact (R0.alloc _).drew | with_reducible exact hHeld.below hb4 | with_reducible exact hHeld.below hb5 | with_reducible exact hHeld.alloc _ | with_reducible exact K5.alloc _ | with_reducible exact hHeld.far3 (by simp only [Off]; repeat' (first | exact trivial | refine And.intro ?_ ?_ | omega)) (by omega) _ _ _ | with_reducible exact K5.far3 (by simp only [Off]; repeat' (first | exact trivial | refine And.intro ?_ ?_ | omega)) (by omega) _ _ _ | with_reducible exact (K5.alloc _).far3 (by simp only [Off]; repeat' (first | exact trivial | refine And.intro ?_ ?_ | omega)) (by omega) _ _ _)
            clear hK K hHeld
            have hHeld := hHeld2
            clear hHeld2
            try simp only [Act.put, List.setIfInBounds_toArray, List.set_cons_zero, List.set_cons_succ]
            refine wpAnyH_take (i := 13) (oi := _) (v := ?v5028) (List.getElem?_toArray.trans rfl) (by kernel_rfl) (by kernel_rfl) (by kernel_rfl) (fun _ _ _ h => h) (Or.inl ⟨by rfl, ?hy5028⟩) (by assumption) ?rest5028
            case hy5028 => (intro wq hSw; (try simp only [Two, Kn, Facts, CellsAt] at hSw); go_simp; try with_reducible rfl)
            try simp only [Act.put, List.setIfInBounds_toArray, List.set_cons_zero, List.set_cons_succ]
            refine wpAnyH_done (by kernel_rfl) ?_ _
            go_wp2_with fail
            go_meet
            case rel => exact ⟨_, rfl, rfl, (by omega), (by repeat (first | with_reducible exact Blk.new _ _ _ | with_reducible exact U5 | with_reducible refine Blk.put3 (x := .bool false) (y := .int .u64 0) (z := .int .u64 0) ?_ _ _ _)), hHeld⟩
    case stp5008_11 =>
      go_simp
      go_wp2_with fail
      refine hK.out _ _ ?hSn5029 (fun hHeld2 => ?rest5029)
      case hSn5029 => (first | with_reducible exact R0.drew | with_reducible exact (R0.alloc _).drew | with_reducible exact hHeld.below hb4 | with_reducible exact hHeld.below hb5 | with_reducible exact hHeld.alloc _ | with_reducible exact K5.alloc _ | with_reducible exact hHeld.far3 (by simp only [Off]; repeat' (first | exact trivial | refine And.intro ?_ ?_ | omega)) (by omega) _ _ _ | with_reducible exact K5.far3 (by simp only [Off]; repeat' (first | exact trivial | refine And.intro ?_ ?_ | omega)) (by omega) _ _ _ | with_reducible exact (K5.alloc _).far3 (by simp only [Off]; repeat' (first | exact trivial | refine And.intro ?_ ?_ | omega)) (by omega) _ _ _)
      clear hK K hHeld
      have hHeld := hHeld2
      clear hHeld2
      try simp only [Act.put, List.setIfInBounds_toArray, List.set_cons_zero, List.set_cons_succ]
      refine wpAnyH_ready (rs := [6]) (by kernel_rfl) (by simp) ?rdy5030
      refine (AllReadyH.cons (List.getElem?_toArray.trans rfl) (fun K hK => ?stp5030_6) AllReadyH.nil)
      case stp5030_6 =>
        go_simp
        go_wp2_with fail
        (refine (OF.out _).mono ?_; rintro e w4 ⟨rfl, hb4⟩; have s4 : w0.heap.size ≤ w4.heap.size := (by have := hb4.size; first | exact this | (simp at this; omega)); first | (have U4 : Blk w4 w0.heap.size #[.bool false, .int .u64 0, .int .u64 0] 26 := Blk.via hb4 (Blk.new w0 #[.bool false, .int .u64 0, .int .u64 0] 26) rfl; obtain ⟨u0, u1, u2, u3, u4, u5, u6⟩ := U4.three) | skip)
        go_wp2_with fail
        refine hK.out _ _ ?hSn5031 (fun hHeld2 => ?rest5031)
        case hSn5031 => (first | with_reducible exact R0.drew | with_reducible exact (R0.alloc _).drew | with_reducible exact hHeld.below hb4 | with_reducible exact hHeld.below hb5 | with_reducible exact hHeld.alloc _ | with_reducible exact K5.alloc _ | with_reducible exact hHeld.far3 (by simp only [Off]; repeat' (first | exact trivial | refine And.intro ?_ ?_ | omega)) (by omega) _ _ _ | with_reducible exact K5.far3 (by simp only [Off]; repeat' (first | exact trivial | refine And.intro ?_ ?_ | omega)) (by omega) _ _ _ | with_reducible exact (K5.alloc _).far3 (by simp only [Off]; repeat' (first | exact trivial | refine And.intro ?_ ?_ | omega)) (by omega) _ _ _)
        clear hK K hHeld
        have hHeld := hHeld2
        clear hHeld2
        try simp only [Act.put, List.setIfInBounds_toArray, List.set_cons_zero, List.set_cons_succ]
        refine wpAnyH_ready (rs := [7]) (by kernel_rfl) (by simp) ?rdy5032
        refine (AllReadyH.cons (List.getElem?_toArray.trans rfl) (fun K hK => ?stp5032_7) AllReadyH.nil)
        case stp5032_7 =>
          go_simp
          go_wp2_with fail
          (refine (HO.out _).mono ?_; rintro e w5 ⟨rfl, hb5⟩; have K5 := hHeld.below hb5; have s5 : w4.heap.size ≤ w5.heap.size := (by have := hb5.size; first | exact this | (simp at this; omega)); first | (have U5 := U4.below hb5; obtain ⟨a0, a1, a2, a3, a4, a5, a6⟩ := U5.three) | (have U5 : Blk w5 w4.heap.size #[.bool false, .int .u64 0, .int .u64 0] 26 := Blk.via hb5 (Blk.new w4 #[.bool false, .int .u64 0, .int .u64 0] 26) rfl; obtain ⟨p0, p1, p2, p3, p4, p5, p6⟩ := U5.three) | skip)
          go_wp2_with fail
          refine hK.out _ _ ?hSn5033 (fun hHeld2 => ?rest5033)
          case hSn5033 => (first | with_reducible exact R0.drew | with_reducible exact (R0.alloc _).drew | with_reducible exact hHeld.below hb4 | with_reducible exact hHeld.below hb5 | with_reducible exact hHeld.alloc _ | with_reducible exact K5.alloc _ | with_reducible exact hHeld.far3 (by simp only [Off]; repeat' (first | exact trivial | refine And.intro ?_ ?_ | omega)) (by omega) _ _ _ | with_reducible exact K5.far3 (by simp only [Off]; repeat' (first | exact trivial | refine And.intro ?_ ?_ | omega)) (by omega) _ _ _ | with_reducible exact (K5.alloc _).far3 (by simp only [Off]; repeat' (first | exact trivial | refine And.intro ?_ ?_ | omega)) (by omega) _ _ _)
          clear hK K hHeld
          have hHeld := hHeld2
          clear hHeld2
          try simp only [Act.put, List.setIfInBounds_toArray, List.set_cons_zero, List.set_cons_succ]
          refine wpAnyH_take (i := 8) (oi := _) (v := ?v5034) (List.getElem?_toArray.trans rfl) (by kernel_rfl) (by kernel_rfl) (by kernel_rfl) (fun _ _ _ h => h) (Or.inl ⟨by rfl, ?hy5034⟩) (by assumption) ?rest5034
          case hy5034 => (intro wq hSw; (try simp only [Two, Kn, Facts, CellsAt] at hSw); go_simp; try with_reducible rfl)
          try simp only [Act.put, List.setIfInBounds_toArray, List.set_cons_zero, List.set_cons_succ]
          refine wpAnyH_take (i := 9) (oi := _) (v := ?v5035) (List.getElem?_toArray.trans rfl) (by kernel_rfl) (by kernel_rfl) (by kernel_rfl) (fun _ _ _ h => h) (Or.inl ⟨by rfl, ?hy5035⟩) (by assumption) ?rest5035
          case hy5035 => (intro wq hSw; (try simp only [Two, Kn, Facts, CellsAt] at hSw); go_simp; try with_reducible rfl)
          try simp only [Act.put, List.setIfInBounds_toArray, List.set_cons_zero, List.set_cons_succ]
          refine wpAnyH_take (i := 10) (oi := _) (v := ?v5036) (List.getElem?_toArray.trans rfl) (by kernel_rfl) (by kernel_rfl) (by kernel_rfl) (fun _ _ _ h => h) (Or.inl ⟨by rfl, ?hy5036⟩) (by assumption) ?rest5036
          case hy5036 => (intro wq hSw; (try simp only [Two, Kn, Facts, CellsAt] at hSw); go_simp; try with_reducible rfl)
          try simp only [Act.put, List.setIfInBounds_toArray, List.set_cons_zero, List.set_cons_succ]
          refine wpAnyH_ready (rs := [12]) (by kernel_rfl) (by simp) ?rdy5037
          refine (AllReadyH.cons (List.getElem?_toArray.trans rfl) (fun K hK => ?stp5037_12) AllReadyH.nil)
          case stp5037_12 =>
            go_simp
            go_wp2_with fail
            refine hK.out _ _ ?hSn5038 (fun hHeld2 => ?rest5038)
            case hSn5038 => (first | with_reducible exact R0.drew | with_reducible exact (R0.alloc _).drew | with_reducible exact hHeld.below hb4 | with_reducible exact hHeld.below hb5 | with_reducible exact hHeld.alloc _ | with_reducible exact K5.alloc _ | with_reducible exact hHeld.far3 (by simp only [Off]; repeat' (first | exact trivial | refine And.intro ?_ ?_ | omega)) (by omega) _ _ _ | with_reducible exact K5.far3 (by simp only [Off]; repeat' (first | exact trivial | refine And.intro ?_ ?_ | omega)) (by omega) _ _ _ | with_reducible exact (K5.alloc _).far3 (by simp only [Off]; repeat' (first | exact trivial | refine And.intro ?_ ?_ | omega)) (by omega) _ _ _)
            clear hK K hHeld
            have hHeld := hHeld2
            clear hHeld2
            try simp only [Act.put, List.setIfInBounds_toArray, List.set_cons_zero, List.set_cons_succ]
            refine wpAnyH_take (i := 13) (oi := _) (v := ?v5039) (List.getElem?_toArray.trans rfl) (by kernel_rfl) (by kernel_rfl) (by kernel_rfl) (fun _ _ _ h => h) (Or.inl ⟨by rfl, ?hy5039⟩) (by assumption) ?rest5039
            case hy5039 => (intro wq hSw; (try simp only [Two, Kn, Facts, CellsAt] at hSw); go_simp; try with_reducible rfl)
            try simp only [Act.put, List.setIfInBounds_toArray, List.set_cons_zero, List.set_cons_succ]
            refine wpAnyH_done (by kernel_rfl) ?_ _
            go_wp2_with fail
            go_meet
            case rel => exact ⟨_, rfl, rfl, (by omega), (by repeat (first | with_reducible exact Blk.new _ _ _ | with_reducible exact U5 | with_reducible refine Blk.put3 (x := .bool false) (y := .int .u64 0) (z := .int .u64 0) ?_ _ _ _)), hHeld⟩
  case rest =>
    obtain ⟨X, rfl, rfl, hX, N, R⟩ := hcut
    obtain ⟨x0, x1, x2, x3, x4, x5, x6⟩ := N.three
    obtain ⟨r0, r1, r2, r3, r4, r5, r6⟩ := R.2.1.1.three
    have B := R.bel
    have ne1 : ¬ X = w.heap.size := by omega
    clear R0 R N LT hs0 OF HO
    go_wp2
    refine bodyPost_ret (v := av v rh rl) (by simp [results, Tryz.results72, go_sem, World.cell?_setCell_same', World.cell?_setCell_other, *]) rfl ⟨rfl, by repeat (first | with_reducible exact Below.refl _ _ | with_reducible refine Below.drew ?_ | with_reducible refine Below.alloc ?_ (by first | omega | (simp <;> omega)) _ | with_reducible refine Below.setCell ?_ (by first | omega | (simp <;> omega)) _ | with_reducible refine Below.trans ?_ (Below.mono B (by first | omega | (simp <;> omega))))⟩

/-- host: the address of a number. -/
theorem host_c {v : Bool} {h l b rh rl : Int} {a x n i : Nat} (hp : IsNum h l n) (ok : okP v n b = true) (hi : i < szP v n b) (hr : IsNum rh rl (n + i)) (w : World)
    (hx : Blk w x #[.bool v, .int .u64 h, .int .u64 l, .int .i64 b, .pointer (some ⟨a, 0, none⟩)] 90) :
    Calls Tryz.prog 72 #[.pointer (some ⟨x, 0, none⟩), .int .i64 i] w fun e w' => e = .returned (av v rh rl) ∧ Below w.heap.size w w' := by
  obtain ⟨W, hW⟩ : ∃ W, widthA v = W := ⟨_, rfl⟩
  obtain ⟨hc, hlt, hblk⟩ := host_blk hW ok hi
  have le := szP_le (v := v) (n := n) (b := b)
  have ii : IsNum 0 (i : Int) i := ⟨by omega, by omega, by omega, by omega, by omega⟩
  exact host_w (by simp [IntKind.wrap, IntKind.bits, IntKind.signed]; omega) (fun w' => host_any hW (fun w1 => block_ok hp ii hc hlt (hr.cast hblk.symm) w1) w') w hx
end Go.Proofs.YtighdocmncbdnaaGreatDoor

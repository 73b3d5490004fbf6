/-
  What Number and Span of package carve return, for every prefix.
-/
import Derived.Test.YtmhnfgfdggjdhaaGreatDoorCarve1
import Derived.Deep.DeepCutAuto
namespace Go.Proofs.YtmhnfgfdggjdhaaGreatDoor
open Go.ChangeShapes Go.WideShapes Go.ChangeAt Go.RowKit
set_option linter.unusedVariables false
set_option linter.unusedSimpArgs false

/-- What Number keeps: a prefix, an address, its answer. -/
def KM (w : World) (v : Bool) (h l b : Int) (u : Bool) (ah al : Int) (W : World) : Prop :=
  (W.cell? ⟨w.heap.size, 0, none⟩ = some (.bool v) ∧ W.cell? ⟨w.heap.size, 1, none⟩ = some (.int .u64 h) ∧ W.cell? ⟨w.heap.size, 2, none⟩ = some (.int .u64 l) ∧ W.cell? ⟨w.heap.size, 3, none⟩ = some (.int .i64 b) ∧ W.cell? ⟨w.heap.size + 1, 0, none⟩ = some (.bool u) ∧ W.cell? ⟨w.heap.size + 1, 1, none⟩ = some (.int .u64 ah) ∧ W.cell? ⟨w.heap.size + 1, 2, none⟩ = some (.int .u64 al)) ∧ Blk W w.heap.size #[.bool v, .int .u64 h, .int .u64 l, .int .i64 b] 28 ∧ Blk W (w.heap.size + 1) #[.bool u, .int .u64 ah, .int .u64 al] 26 ∧ Below w.heap.size w W

theorem KM.of {w W : World} {v : Bool} {h l b : Int} {u : Bool} {ah al : Int} (x : Blk W w.heap.size #[.bool v, .int .u64 h, .int .u64 l, .int .i64 b] 28) (y : Blk W (w.heap.size + 1) #[.bool u, .int .u64 ah, .int .u64 al] 26) (z : Below w.heap.size w W) : KM w v h l b u ah al W :=
  ⟨⟨x.cell 0, x.cell 1, x.cell 2, x.cell 3, y.cell 0, y.cell 1, y.cell 2⟩, x, y, z⟩

theorem KM.drew {w W : World} {v : Bool} {h l b : Int} {u : Bool} {ah al : Int} (s : KM w v h l b u ah al W) : KM w v h l b u ah al W.drew := KM.of s.2.1 s.2.2.1 s.2.2.2.drew

theorem KM.below {w W w1 : World} {v : Bool} {h l b : Int} {u : Bool} {ah al : Int} (s : KM w v h l b u ah al W) (hb : Below W.heap.size W w1) : KM w v h l b u ah al w1 := KM.of (s.2.1.below hb) (s.2.2.1.below hb) (s.2.2.2.trans (hb.mono s.2.2.2.size))

theorem KM.far2 {w W : World} {v : Bool} {h l b : Int} {u : Bool} {ah al : Int} {D : Nat} (s : KM w v h l b u ah al W) (hd : w.heap.size + 1 < D) (x y : Value) : KM w v h l b u ah al ((W.setCell ⟨D, 0, none⟩ x).setCell ⟨D, 1, none⟩ y) :=
  KM.of (s.2.1.far2 (by omega) _ _) (s.2.2.1.far2 (by omega) _ _) ((s.2.2.2.setCell (by show w.heap.size ≤ D; omega) _).setCell (by show w.heap.size ≤ D; omega) _)

theorem KM.start (w : World) (v : Bool) (h l b : Int) (u : Bool) (ah al : Int) : KM w v h l b u ah al (((w.alloc (.cells #[.bool v, .int .u64 h, .int .u64 l, .int .i64 b] 28)).alloc (.cells #[.bool u, .int .u64 ah, .int .u64 al] 26)).alloc (.cells #[.int .u64 0, .int .u64 0] 24)) ∧ Blk (((w.alloc (.cells #[.bool v, .int .u64 h, .int .u64 l, .int .i64 b] 28)).alloc (.cells #[.bool u, .int .u64 ah, .int .u64 al] 26)).alloc (.cells #[.int .u64 0, .int .u64 0] 24)) (w.heap.size + 1 + 1) #[.int .u64 0, .int .u64 0] 24 :=
  ⟨KM.of (((Blk.new _ _ _).alloc _).alloc _) (Blk.alloc (by simpa using Blk.new (w.alloc (.cells #[.bool v, .int .u64 h, .int .u64 l, .int .i64 b] 28)) #[.bool u, .int .u64 ah, .int .u64 al] 26) _) (by repeat (first | with_reducible exact Below.refl _ _ | with_reducible refine Below.drew ?_ | with_reducible refine Below.alloc ?_ (by first | omega | (simp <;> omega)) _ | with_reducible refine Below.setCell ?_ (by first | omega | (simp <;> omega)) _)), by simpa using Blk.new ((w.alloc (.cells #[.bool v, .int .u64 h, .int .u64 l, .int .i64 b] 28)).alloc (.cells #[.bool u, .int .u64 ah, .int .u64 al] 26)) #[.int .u64 0, .int .u64 0] 24⟩

set_option maxRecDepth 100000 in
set_option maxHeartbeats 800000 in
theorem number_arg {v u : Bool} {h l b ah al : Int} {n : Nat} (hp : IsNum h l n) (hk : okP v n b = false) (w : World) :
    Calls Tryz.prog 38 #[pv v h l b, av u ah al] w fun e w' => e = .returned (.tuple #[nv 0 0, .int .i64 1]) ∧ Below w.heap.size w w' := by
  have R := fun w' => pright_c (v := v) (b := b) hp w'
  rw [hk] at R
  have K0 := KM.start w v h l b u ah al
  clear hk hp
  go_enter Tryz.func38, Tryz.ntmps38
  go_wp2_with fail
  refine (R _).mono ?_
  rintro e w1 ⟨rfl, hb1⟩
  obtain ⟨r0, r1, r2, r3, r4⟩ := (K0.2.below hb1).two
  have B1 := (K0.1.below hb1).2.2.2
  clear R K0 hb1
  go_wp2
  refine bodyPost_ret (v := .tuple #[nv 0 0, .int .i64 1]) (by simp [results, Tryz.results38, go_sem, World.cell?_setCell_same', World.cell?_setCell_other, *]) rfl ⟨rfl, by repeat (first | with_reducible exact Below.refl _ _ | with_reducible refine Below.drew ?_ | with_reducible refine Below.alloc ?_ (by first | omega | (simp <;> omega)) _ | with_reducible refine Below.setCell ?_ (by first | omega | (simp <;> omega)) _ | with_reducible refine Below.trans ?_ (Below.mono B1 (by first | omega | (simp <;> omega))))⟩

set_option maxRecDepth 100000 in
set_option maxHeartbeats 800000 in
theorem number_range {v u : Bool} {h l b ah al : Int} {n a : Nat} (hp : IsNum h l n) (ha : IsNum ah al a) (hk : okP v n b = true) (hh : hasB v n b u a = false) (w : World) :
    Calls Tryz.prog 38 #[pv v h l b, av u ah al] w fun e w' => e = .returned (.tuple #[nv 0 0, .int .i64 12]) ∧ Below w.heap.size w w' := by
  have R : Hid (∀ w', Calls Tryz.prog 49 #[pv v h l b] w' fun e w1 => e = .returned (.bool true) ∧ Below w'.heap.size w' w1) := fun w' => hk ▸ pright_c hp w'
  have H : Hid (∀ w', Calls Tryz.prog 18 #[pv v h l b, av u ah al] w' fun e w1 => e = .returned (.bool false) ∧ Below w'.heap.size w' w1) := fun w' => hh ▸ has_c hp ha w'
  have K0 := KM.start w v h l b u ah al
  clear hk hp ha hh
  go_enter Tryz.func38, Tryz.ntmps38
  go_wp2_with fail
  refine (R.out _).mono ?_
  rintro e w1 ⟨rfl, hb1⟩
  have K1 := K0.1.below hb1
  have N1 := K0.2.below hb1
  have F := K1.1
  clear R K0 hb1
  go_wp2_with fail
  refine (H.out _).mono ?_
  rintro e w2 ⟨rfl, hb2⟩
  obtain ⟨r0, r1, r2, r3, r4⟩ := (N1.below hb2).two
  have B2 := (K1.below hb2).2.2.2
  clear H F K1 N1 hb2
  go_wp2
  refine bodyPost_ret (v := .tuple #[nv 0 0, .int .i64 12]) (by simp [results, Tryz.results38, go_sem, World.cell?_setCell_same', World.cell?_setCell_other, *]) rfl ⟨rfl, by repeat (first | with_reducible exact Below.refl _ _ | with_reducible refine Below.drew ?_ | with_reducible refine Below.alloc ?_ (by first | omega | (simp <;> omega)) _ | with_reducible refine Below.setCell ?_ (by first | omega | (simp <;> omega)) _ | with_reducible refine Below.trans ?_ (Below.mono B2 (by first | omega | (simp <;> omega))))⟩

set_option maxRecDepth 100000 in
set_option maxHeartbeats 1600000 in
theorem number_ok {v : Bool} {h l b ah al rh rl : Int} {n a : Nat} (hp : IsNum h l n) (ha : IsNum ah al a) (hh : hasB v n b v a = true) (hr : IsNum rh rl (a - n)) (w : World) :
    Calls Tryz.prog 38 #[pv v h l b, av v ah al] w fun e w' => e = .returned (.tuple #[nv rh rl, .int .i64 0]) ∧ Below w.heap.size w w' := by
  have hk := has_ok hh
  have R : Hid (∀ w', Calls Tryz.prog 49 #[pv v h l b] w' fun e w1 => e = .returned (.bool true) ∧ Below w'.heap.size w' w1) := fun w' => hk ▸ pright_c hp w'
  have H : Hid (∀ w', Calls Tryz.prog 18 #[pv v h l b, av v ah al] w' fun e w1 => e = .returned (.bool true) ∧ Below w'.heap.size w' w1) := fun w' => hh ▸ has_c hp ha w'
  obtain ⟨W, hW⟩ : ∃ W, widthA v = W := ⟨_, rfl⟩
  have hW2 := width_le v
  have C1 : Hid (∀ w', Calls Tryz.prog 19 #[av v ah al] w' fun e w1 => e = .returned (.int .i64 W) ∧ Below w'.heap.size w' w1) := fun w' => width_lit v W hW ah al w'
  have e0 : numN v n W a = a - n := by
    unfold numN behindP; rw [hW, Int.sub_self]; simp
  have C2 : Hid (∀ w', Calls Tryz.prog 76 #[pv v h l b, .int .i64 W, av v ah al] w' fun e w1 => e = .returned (nv rh rl) ∧ Below w'.heap.size w' w1) := fun w' => blockOf_is hp ha (fitsB_parts (okP_parts hk).1).1 (fitsB_parts (has_parts hh).2.1).1 ((has_ends hk hp.lt).1 hh).1 (by omega) (by omega) (hr.cast e0.symm) w'
  have K0 := KM.start w v h l b v ah al
  clear hk hp ha hh hW hW2 e0 hr
  go_enter Tryz.func38, Tryz.ntmps38
  go_wp2_with fail
  refine (R.out _).mono ?_
  rintro e w1 ⟨rfl, hb1⟩
  have K1 := K0.1.below hb1
  have N1 := K0.2.below hb1
  have F := K1.1
  clear R K0 hb1
  go_wp2_with fail
  refine (H.out _).mono ?_
  rintro e w2 ⟨rfl, hb2⟩
  have K2 := K1.below hb2
  have N2 := N1.below hb2
  clear H F K1 N1 hb2
  go_wp2_with fail
  refine wp_region_held_drew (S := (KM w v h l b v ah al)) (by kernel_rfl) ?hS100 (fun hHeld => ?rest100)
  case hS100 => (first | with_reducible exact K2.drew | with_reducible exact hHeld.below hb3 | with_reducible exact hHeld.below hb4 | exact hHeld.far2 (by omega) _ _)
  refine wpAnyH_take (i := 0) (oi := _) (v := ?v101) (List.getElem?_toArray.trans rfl) (by kernel_rfl) (by kernel_rfl) (by kernel_rfl) (fun _ _ _ h => h) (Or.inl ⟨by rfl, ?hy101⟩) (by assumption) ?rest101
  case hy101 => (intro wq hSw; (try simp only [Two, KM] at hSw); go_simp; try with_reducible rfl)
  try simp only [Act.put, List.setIfInBounds_toArray, List.set_cons_zero, List.set_cons_succ]
  refine wpAnyH_take (i := 1) (oi := _) (v := ?v102) (List.getElem?_toArray.trans rfl) (by kernel_rfl) (by kernel_rfl) (by kernel_rfl) (fun _ _ _ h => h) (Or.inl ⟨by rfl, ?hy102⟩) (by assumption) ?rest102
  case hy102 => (intro wq hSw; (try simp only [Two, KM] at hSw); go_simp; try with_reducible rfl)
  try simp only [Act.put, List.setIfInBounds_toArray, List.set_cons_zero, List.set_cons_succ]
  refine wpAnyH_take (i := 3) (oi := _) (v := ?v103) (List.getElem?_toArray.trans rfl) (by kernel_rfl) (by kernel_rfl) (by kernel_rfl) (fun _ _ _ h => h) (Or.inl ⟨by rfl, ?hy103⟩) (by assumption) ?rest103
  case hy103 => (intro wq hSw; (try simp only [Two, KM] at hSw); go_simp; try with_reducible rfl)
  try simp only [Act.put, List.setIfInBounds_toArray, List.set_cons_zero, List.set_cons_succ]
  refine wpAnyH_ready (rs := [2]) (by kernel_rfl) (by simp) ?rdy104
  refine AllReadyH.cons (List.getElem?_toArray.trans rfl) (fun K hK => ?stp104) AllReadyH.nil
  go_simp
  go_wp2_with fail
  (refine (C1.out _).mono ?_; rintro e w3 ⟨rfl, hb3⟩)
  go_wp2_with fail
  refine hK.out _ _ ?hSn104 (fun hHeld2 => ?rest104)
  case hSn104 => (first | with_reducible exact K2.drew | with_reducible exact hHeld.below hb3 | with_reducible exact hHeld.below hb4 | exact hHeld.far2 (by omega) _ _)
  clear hK K hHeld
  have hHeld := hHeld2
  clear hHeld2
  try simp only [Act.put, List.setIfInBounds_toArray, List.set_cons_zero, List.set_cons_succ]
  refine wpAnyH_ready (rs := [4]) (by kernel_rfl) (by simp) ?rdy105
  refine AllReadyH.cons (List.getElem?_toArray.trans rfl) (fun K hK => ?stp105) AllReadyH.nil
  go_simp
  go_wp2_with fail
  (refine (C2.out _).mono ?_; rintro e w4 ⟨rfl, hb4⟩; have B4 := (hHeld.below hb4).2.2.2; obtain ⟨r0, r1, r2, r3, r4⟩ := ((N2.via hb3 rfl).below hb4).two)
  go_wp2_with fail
  refine hK.out _ _ ?hSn105 (fun hHeld2 => ?rest105)
  case hSn105 => (first | with_reducible exact K2.drew | with_reducible exact hHeld.below hb3 | with_reducible exact hHeld.below hb4 | exact hHeld.far2 (by omega) _ _)
  clear hK K hHeld
  have hHeld := hHeld2
  clear hHeld2
  try simp only [Act.put, List.setIfInBounds_toArray, List.set_cons_zero, List.set_cons_succ]
  refine wpAnyH_ready (rs := [5]) (by kernel_rfl) (by simp) ?rdy106
  refine AllReadyH.cons (List.getElem?_toArray.trans rfl) (fun K hK => ?stp106) AllReadyH.nil
  go_simp
  go_wp2_with fail
  skip
  go_wp2_with fail
  refine hK.out _ _ ?hSn106 (fun hHeld2 => ?rest106)
  case hSn106 => (first | with_reducible exact K2.drew | with_reducible exact hHeld.below hb3 | with_reducible exact hHeld.below hb4 | exact hHeld.far2 (by omega) _ _)
  clear hK K hHeld
  have hHeld := hHeld2
  clear hHeld2
  try simp only [Act.put, List.setIfInBounds_toArray, List.set_cons_zero, List.set_cons_succ]
  refine wpAnyH_take (i := 6) (oi := _) (v := ?v107) (List.getElem?_toArray.trans rfl) (by kernel_rfl) (by kernel_rfl) (by kernel_rfl) (fun _ _ _ h => h) (Or.inl ⟨by rfl, ?hy107⟩) (by assumption) ?rest107
  case hy107 => (intro wq hSw; (try simp only [Two, KM] at hSw); go_simp; try with_reducible rfl)
  try simp only [Act.put, List.setIfInBounds_toArray, List.set_cons_zero, List.set_cons_succ]
  refine wpAnyH_done (by kernel_rfl) ?fin100 _
  clear hHeld hb3 hb4 K2 N2 C1 C2
  go_wp2
  refine bodyPost_ret (v := .tuple #[nv rh rl, .int .i64 0]) (by simp [results, Tryz.results38, go_sem, World.cell?_setCell_same', World.cell?_setCell_other, *]) rfl ⟨rfl, by repeat (first | with_reducible exact Below.refl _ _ | with_reducible refine Below.drew ?_ | with_reducible refine Below.alloc ?_ (by first | omega | (simp <;> omega)) _ | with_reducible refine Below.setCell ?_ (by first | omega | (simp <;> omega)) _ | with_reducible refine Below.trans ?_ (Below.mono B4 (by first | omega | (simp <;> omega))))⟩
end Go.Proofs.YtmhnfgfdggjdhaaGreatDoor

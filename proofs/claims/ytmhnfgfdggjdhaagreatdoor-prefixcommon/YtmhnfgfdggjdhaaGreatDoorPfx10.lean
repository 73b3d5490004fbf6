/-
  What Common of package prefix returns.
-/
import Derived.Test.YtmhnfgfdggjdhaaGreatDoorPfx9
namespace Go.Proofs.YtmhnfgfdggjdhaaGreatDoor
open Go.ChangeShapes Go.WideShapes Go.ChangeAt Go.RowKit
set_option linter.unusedVariables false
set_option linter.unusedSimpArgs false

/-- What Common keeps: two prefixes and the answer's place. -/
def CK (w : World) (v : Bool) (ph pl b : Int) (u : Bool) (qh ql c : Int) (wx : World) : Prop :=
  PP w.heap.size (w.heap.size + 1) v ph pl b u qh ql c wx ∧ Blk wx (w.heap.size + 2) #[.bool false, .int .u64 0, .int .u64 0, .int .i64 0] 28 ∧ Below w.heap.size w wx

theorem CK.below {w W w1 : World} {v : Bool} {ph pl b : Int} {u : Bool} {qh ql c : Int} (s : CK w v ph pl b u qh ql c W) (hb : Below W.heap.size W w1) : CK w v ph pl b u qh ql c w1 := ⟨s.1.below hb, s.2.1.below hb, s.2.2.trans (hb.mono s.2.2.size)⟩

theorem CK.via {w W W0 w1 : World} {v : Bool} {ph pl b : Int} {u : Bool} {qh ql c : Int} (s : CK w v ph pl b u qh ql c W0) (hb : Below W.heap.size W w1) (e : W.heap = W0.heap) (e1 : W.os = W0.os) (e2 : W.tape = W0.tape) (e3 : W.output = W0.output) : CK w v ph pl b u qh ql c w1 := ⟨PP.of (s.1.2.1.via hb e) (s.1.2.2.via hb e), s.2.1.via hb e, Below.via hb s.2.2 (Nat.le_refl _) e e1 e2 e3⟩

theorem CK.start (w : World) (v : Bool) (ph pl b : Int) (u : Bool) (qh ql c : Int) : CK w v ph pl b u qh ql c (((w.alloc (.cells #[.bool v, .int .u64 ph, .int .u64 pl, .int .i64 b] 28)).alloc (.cells #[.bool u, .int .u64 qh, .int .u64 ql, .int .i64 c] 28)).alloc (.cells #[.bool false, .int .u64 0, .int .u64 0, .int .i64 0] 28)) :=
  ⟨PP.of (((Blk.new _ _ _).alloc _).alloc _) ((Blk.new1 _ _ _ _).alloc _), by simpa using Blk.new ((w.alloc (.cells #[.bool v, .int .u64 ph, .int .u64 pl, .int .i64 b] 28)).alloc (.cells #[.bool u, .int .u64 qh, .int .u64 ql, .int .i64 c] 28)) #[.bool false, .int .u64 0, .int .u64 0, .int .i64 0] 28, by repeat (first | with_reducible exact Below.refl _ _ | with_reducible refine Below.drew ?_ | with_reducible refine Below.alloc ?_ (by first | omega | (simp <;> omega)) _ | with_reducible refine Below.setCell ?_ (by first | omega | (simp <;> omega)) _)⟩

set_option maxHeartbeats 1600000 in
theorem common_no {v u : Bool} {ph pl b qh ql c : Int} {n m : Nat} (hp : IsNum ph pl n) (hq : IsNum qh ql m) (hc : okP v n b = false ∨ (okP v n b = true ∧ okP u m c = false) ∨ (okP v n b = true ∧ okP u m c = true ∧ v ≠ u)) (w : World) :
    Calls Tryz.prog 22 #[pv v ph pl b, pv u qh ql c] w fun e w' => e = .returned (.tuple #[pv false 0 0 0, .int .i64 1]) ∧ Below w.heap.size w w' := by
  have C1 := fun w' => pright_c (v := v) (b := b) hp w'
  have C2 := fun w' => pright_c (v := u) (b := c) hq w'
  have R := CK.start w v ph pl b u qh ql c
  clear hp hq
  rcases hc with h1 | ⟨h1, h2⟩ | ⟨h1, h2, h3⟩
  · rw [h1] at C1
    clear C2 h1
    have F := R.1.1
    go_enter Tryz.func22, Tryz.ntmps22
    go_wp2_with fail
    refine (C1 _).mono ?_
    rintro e w1 ⟨rfl, hb1⟩
    replace R := R.below hb1
    replace F := R.1.1
    obtain ⟨r0, r1, r2, r3, r4, r5, r6, r7, r8⟩ := R.2.1.four
    have B1 := R.2.2
    clear C1 hb1 R
    go_wp2
    refine bodyPost_ret (v := .tuple #[pv false 0 0 0, .int .i64 1]) (by simp [results, Tryz.results22, go_sem, World.cell?_setCell_same', World.cell?_setCell_other, *]) rfl ⟨rfl, by repeat (first | with_reducible exact Below.refl _ _ | with_reducible refine Below.drew ?_ | with_reducible refine Below.alloc ?_ (by first | omega | (simp <;> omega)) _ | with_reducible refine Below.setCell ?_ (by first | omega | (simp <;> omega)) _ | with_reducible refine Below.trans ?_ (Below.mono B1 (by first | omega | (simp <;> omega))))⟩
  · rw [h1] at C1
    rw [h2] at C2
    clear h1 h2
    have F := R.1.1
    go_enter Tryz.func22, Tryz.ntmps22
    go_wp2_with fail
    refine (C1 _).mono ?_
    rintro e w1 ⟨rfl, hb1⟩
    replace R := R.below hb1
    replace F := R.1.1
    clear C1 hb1
    go_wp2_with fail
    refine (C2 _).mono ?_
    rintro e w2 ⟨rfl, hb2⟩
    replace R := R.below hb2
    replace F := R.1.1
    obtain ⟨r0, r1, r2, r3, r4, r5, r6, r7, r8⟩ := R.2.1.four
    have B2 := R.2.2
    clear C2 hb2 R
    go_wp2
    refine bodyPost_ret (v := .tuple #[pv false 0 0 0, .int .i64 1]) (by simp [results, Tryz.results22, go_sem, World.cell?_setCell_same', World.cell?_setCell_other, *]) rfl ⟨rfl, by repeat (first | with_reducible exact Below.refl _ _ | with_reducible refine Below.drew ?_ | with_reducible refine Below.alloc ?_ (by first | omega | (simp <;> omega)) _ | with_reducible refine Below.setCell ?_ (by first | omega | (simp <;> omega)) _ | with_reducible refine Below.trans ?_ (Below.mono B2 (by first | omega | (simp <;> omega))))⟩
  · rw [h1] at C1
    rw [h2] at C2
    have h3' : (v == u) = false := by simpa using h3
    have h4 : ¬ v = u := h3
    clear h1 h2 h3
    have F := R.1.1
    go_enter Tryz.func22, Tryz.ntmps22
    go_wp2_with fail
    refine (C1 _).mono ?_
    rintro e w1 ⟨rfl, hb1⟩
    replace R := R.below hb1
    replace F := R.1.1
    clear C1 hb1
    go_wp2_with fail
    refine (C2 _).mono ?_
    rintro e w2 ⟨rfl, hb2⟩
    replace R := R.below hb2
    replace F := R.1.1
    obtain ⟨r0, r1, r2, r3, r4, r5, r6, r7, r8⟩ := R.2.1.four
    have B2 := R.2.2
    clear C2 hb2 R
    go_wp2
    refine bodyPost_ret (v := .tuple #[pv false 0 0 0, .int .i64 1]) (by simp [results, Tryz.results22, go_sem, World.cell?_setCell_same', World.cell?_setCell_other, *]) rfl ⟨rfl, by repeat (first | with_reducible exact Below.refl _ _ | with_reducible refine Below.drew ?_ | with_reducible refine Below.alloc ?_ (by first | omega | (simp <;> omega)) _ | with_reducible refine Below.setCell ?_ (by first | omega | (simp <;> omega)) _ | with_reducible refine Below.trans ?_ (Below.mono B2 (by first | omega | (simp <;> omega))))⟩

set_option maxHeartbeats 1600000 in
theorem rcommon_no {v u : Bool} {ph pl b qh ql c : Int} {n m : Nat} (hp : IsNum ph pl n) (hq : IsNum qh ql m) (hc : okP v n b = false ∨ (okP v n b = true ∧ okP u m c = false) ∨ (okP v n b = true ∧ okP u m c = true ∧ v ≠ u)) (w : World) :
    Calls Tryz.prog 23 #[pv v ph pl b, pv u qh ql c] w fun e w' => e = .returned (.tuple #[pv false 0 0 0, .int .i64 1]) ∧ Below w.heap.size w w' := by
  have C1 := fun w' => rpright_c (v := v) (b := b) hp w'
  have C2 := fun w' => rpright_c (v := u) (b := c) hq w'
  have R := CK.start w v ph pl b u qh ql c
  clear hp hq
  rcases hc with h1 | ⟨h1, h2⟩ | ⟨h1, h2, h3⟩
  · rw [h1] at C1
    clear C2 h1
    have F := R.1.1
    go_enter Tryz.func23, Tryz.ntmps23
    go_wp2_with fail
    refine (C1 _).mono ?_
    rintro e w1 ⟨rfl, hb1⟩
    replace R := R.below hb1
    replace F := R.1.1
    obtain ⟨r0, r1, r2, r3, r4, r5, r6, r7, r8⟩ := R.2.1.four
    have B1 := R.2.2
    clear C1 hb1 R
    go_wp2
    refine bodyPost_ret (v := .tuple #[pv false 0 0 0, .int .i64 1]) (by simp [results, Tryz.results23, go_sem, World.cell?_setCell_same', World.cell?_setCell_other, *]) rfl ⟨rfl, by repeat (first | with_reducible exact Below.refl _ _ | with_reducible refine Below.drew ?_ | with_reducible refine Below.alloc ?_ (by first | omega | (simp <;> omega)) _ | with_reducible refine Below.setCell ?_ (by first | omega | (simp <;> omega)) _ | with_reducible refine Below.trans ?_ (Below.mono B1 (by first | omega | (simp <;> omega))))⟩
  · rw [h1] at C1
    rw [h2] at C2
    clear h1 h2
    have F := R.1.1
    go_enter Tryz.func23, Tryz.ntmps23
    go_wp2_with fail
    refine (C1 _).mono ?_
    rintro e w1 ⟨rfl, hb1⟩
    replace R := R.below hb1
    replace F := R.1.1
    clear C1 hb1
    go_wp2_with fail
    refine (C2 _).mono ?_
    rintro e w2 ⟨rfl, hb2⟩
    replace R := R.below hb2
    replace F := R.1.1
    obtain ⟨r0, r1, r2, r3, r4, r5, r6, r7, r8⟩ := R.2.1.four
    have B2 := R.2.2
    clear C2 hb2 R
    go_wp2
    refine bodyPost_ret (v := .tuple #[pv false 0 0 0, .int .i64 1]) (by simp [results, Tryz.results23, go_sem, World.cell?_setCell_same', World.cell?_setCell_other, *]) rfl ⟨rfl, by repeat (first | with_reducible exact Below.refl _ _ | with_reducible refine Below.drew ?_ | with_reducible refine Below.alloc ?_ (by first | omega | (simp <;> omega)) _ | with_reducible refine Below.setCell ?_ (by first | omega | (simp <;> omega)) _ | with_reducible refine Below.trans ?_ (Below.mono B2 (by first | omega | (simp <;> omega))))⟩
  · rw [h1] at C1
    rw [h2] at C2
    have h3' : (v == u) = false := by simpa using h3
    have h4 : ¬ v = u := h3
    clear h1 h2 h3
    have F := R.1.1
    go_enter Tryz.func23, Tryz.ntmps23
    go_wp2_with fail
    refine (C1 _).mono ?_
    rintro e w1 ⟨rfl, hb1⟩
    replace R := R.below hb1
    replace F := R.1.1
    clear C1 hb1
    go_wp2_with fail
    refine (C2 _).mono ?_
    rintro e w2 ⟨rfl, hb2⟩
    replace R := R.below hb2
    replace F := R.1.1
    obtain ⟨r0, r1, r2, r3, r4, r5, r6, r7, r8⟩ := R.2.1.four
    have B2 := R.2.2
    clear C2 hb2 R
    go_wp2
    refine bodyPost_ret (v := .tuple #[pv false 0 0 0, .int .i64 1]) (by simp [results, Tryz.results23, go_sem, World.cell?_setCell_same', World.cell?_setCell_other, *]) rfl ⟨rfl, by repeat (first | with_reducible exact Below.refl _ _ | with_reducible refine Below.drew ?_ | with_reducible refine Below.alloc ?_ (by first | omega | (simp <;> omega)) _ | with_reducible refine Below.setCell ?_ (by first | omega | (simp <;> omega)) _ | with_reducible refine Below.trans ?_ (Below.mono B2 (by first | omega | (simp <;> omega))))⟩

theorem pow_of_okA {v : Bool} {a W : Nat} (hW : widthA v = (W : Nat)) (ha : a < 340282366920938463463374607431768211456) (h : okA v a = true) : a < 2 ^ W := by
  cases v
  · have : W = 32 := by simp [widthA] at hW; omega
    subst this; exact okA_pow h
  · have : W = 128 := by simp [widthA] at hW; omega
    subst this; simpa using ha

set_option maxRecDepth 100000 in
set_option maxHeartbeats 1600000 in
theorem common_A {v : Bool} {ph pl b qh ql c rh rl K : Int} (h1 : c < b) (g1 : c ≤ b) (h2 : K < c) (g2 : K ≤ c)
    (CL : Hid (∀ w', Calls Tryz.prog 57 #[av v ph pl, av v qh ql] w' fun e w1 => e = .returned (.int .i64 K) ∧ Below w'.heap.size w' w1))
    (CO : Hid (∀ w', Calls Tryz.prog 48 #[av v ph pl, .int .i64 K] w' fun e w1 => e = .returned (.tuple #[pv v rh rl K, .int .i64 0]) ∧ Below w'.heap.size w' w1))
    (C1 : Hid (∀ w', Calls Tryz.prog 49 #[pv v ph pl b] w' fun e w1 => e = .returned (.bool true) ∧ Below w'.heap.size w' w1))
    (C2 : Hid (∀ w', Calls Tryz.prog 49 #[pv v qh ql c] w' fun e w1 => e = .returned (.bool true) ∧ Below w'.heap.size w' w1)) (w : World) :
    Calls Tryz.prog 22 #[pv v ph pl b, pv v qh ql c] w fun e w' => e = .returned (.tuple #[pv v rh rl K, .int .i64 0]) ∧ Below w.heap.size w w' := by
  have R := CK.start w v ph pl b v qh ql c
  have F := R.1.1
  go_enter Tryz.func22, Tryz.ntmps22
  go_wp2_with fail
  refine (C1.out _).mono ?_
  rintro e w1 ⟨rfl, hb1⟩
  replace R := R.below hb1
  replace F := R.1.1
  clear C1 hb1
  go_wp2_with fail
  refine (C2.out _).mono ?_
  rintro e w2 ⟨rfl, hb2⟩
  replace R := R.below hb2
  replace F := R.1.1
  clear C2 hb2
  go_upto_region 3 with fail
  have S0 := R.1
  clear F
  refine wp_region_held_drew (S := (PP w.heap.size (w.heap.size + 1) v ph pl b v qh ql c)) (by kernel_rfl) ?hS100 (fun hHeld => ?rest100)
  case hS100 => (first | with_reducible exact S0.drew | with_reducible exact hHeld.below hb3 | with_reducible exact hHeld.below hb4 | with_reducible exact hHeld | with_reducible exact hHeld.far4 (by omega) (by omega) _ _ _ _)
  refine wpAnyH_take (i := 0) (oi := _) (v := ?v101) (List.getElem?_toArray.trans rfl) (by kernel_rfl) (by kernel_rfl) (by kernel_rfl) (fun _ _ _ h => h) (Or.inl ⟨by rfl, ?hy101⟩) (by assumption) ?rest101
  case hy101 => (intro wq hSw; (try simp only [Two, PP] at hSw); go_simp; try with_reducible rfl)
  try simp only [Act.put, List.setIfInBounds_toArray, List.set_cons_zero, List.set_cons_succ]
  refine wpAnyH_take (i := 1) (oi := _) (v := ?v102) (List.getElem?_toArray.trans rfl) (by kernel_rfl) (by kernel_rfl) (by kernel_rfl) (fun _ _ _ h => h) (Or.inl ⟨by rfl, ?hy102⟩) (by assumption) ?rest102
  case hy102 => (intro wq hSw; (try simp only [Two, PP] at hSw); go_simp; try with_reducible rfl)
  try simp only [Act.put, List.setIfInBounds_toArray, List.set_cons_zero, List.set_cons_succ]
  refine wpAnyH_take (i := 2) (oi := _) (v := ?v103) (List.getElem?_toArray.trans rfl) (by kernel_rfl) (by kernel_rfl) (by kernel_rfl) (fun _ _ _ h => h) (Or.inl ⟨by rfl, ?hy103⟩) (by assumption) ?rest103
  case hy103 => (intro wq hSw; (try simp only [Two, PP] at hSw); go_simp; try with_reducible rfl)
  try simp only [Act.put, List.setIfInBounds_toArray, List.set_cons_zero, List.set_cons_succ]
  refine wpAnyH_take (i := 3) (oi := _) (v := ?v104) (List.getElem?_toArray.trans rfl) (by kernel_rfl) (by kernel_rfl) (by kernel_rfl) (fun _ _ _ h => h) (Or.inl ⟨by rfl, ?hy104⟩) (by assumption) ?rest104
  case hy104 => (intro wq hSw; (try simp only [Two, PP] at hSw); go_simp; try with_reducible rfl)
  try simp only [Act.put, List.setIfInBounds_toArray, List.set_cons_zero, List.set_cons_succ]
  refine wpAnyH_take (i := 4) (oi := _) (v := ?v105) (List.getElem?_toArray.trans rfl) (by kernel_rfl) (by kernel_rfl) (by kernel_rfl) (fun _ _ _ h => h) (Or.inl ⟨by rfl, ?hy105⟩) (by assumption) ?rest105
  case hy105 => (intro wq hSw; (try simp only [Two, PP] at hSw); go_simp; try with_reducible rfl)
  try simp only [Act.put, List.setIfInBounds_toArray, List.set_cons_zero, List.set_cons_succ]
  refine wpAnyH_take (i := 5) (oi := _) (v := ?v106) (List.getElem?_toArray.trans rfl) (by kernel_rfl) (by kernel_rfl) (by kernel_rfl) (fun _ _ _ h => h) (Or.inl ⟨by rfl, ?hy106⟩) (by assumption) ?rest106
  case hy106 => (intro wq hSw; (try simp only [Two, PP] at hSw); go_simp; try with_reducible rfl)
  try simp only [Act.put, List.setIfInBounds_toArray, List.set_cons_zero, List.set_cons_succ]
  refine wpAnyH_take (i := 6) (oi := _) (v := ?v107) (List.getElem?_toArray.trans rfl) (by kernel_rfl) (by kernel_rfl) (by kernel_rfl) (fun _ _ _ h => h) (Or.inl ⟨by rfl, ?hy107⟩) (by assumption) ?rest107
  case hy107 => (intro wq hSw; (try simp only [Two, PP] at hSw); go_simp; try with_reducible rfl)
  try simp only [Act.put, List.setIfInBounds_toArray, List.set_cons_zero, List.set_cons_succ]
  refine wpAnyH_take (i := 7) (oi := _) (v := ?v108) (List.getElem?_toArray.trans rfl) (by kernel_rfl) (by kernel_rfl) (by kernel_rfl) (fun _ _ _ h => h) (Or.inl ⟨by rfl, ?hy108⟩) (by assumption) ?rest108
  case hy108 => (intro wq hSw; (try simp only [Two, PP] at hSw); go_simp; try with_reducible rfl)
  try simp only [Act.put, List.setIfInBounds_toArray, List.set_cons_zero, List.set_cons_succ]
  refine wpAnyH_take (i := 8) (oi := _) (v := ?v109) (List.getElem?_toArray.trans rfl) (by kernel_rfl) (by kernel_rfl) (by kernel_rfl) (fun _ _ _ h => h) (Or.inl ⟨by rfl, ?hy109⟩) (by assumption) ?rest109
  case hy109 => (intro wq hSw; (try simp only [Two, PP] at hSw); go_simp; try with_reducible rfl)
  try simp only [Act.put, List.setIfInBounds_toArray, List.set_cons_zero, List.set_cons_succ]
  refine wpAnyH_take (i := 9) (oi := _) (v := ?v110) (List.getElem?_toArray.trans rfl) (by kernel_rfl) (by kernel_rfl) (by kernel_rfl) (fun _ _ _ h => h) (Or.inl ⟨by rfl, ?hy110⟩) (by assumption) ?rest110
  case hy110 => (intro wq hSw; (try simp only [Two, PP] at hSw); go_simp; try with_reducible rfl)
  try simp only [Act.put, List.setIfInBounds_toArray, List.set_cons_zero, List.set_cons_succ]
  refine wpAnyH_ready (rs := [10]) (by kernel_rfl) (by simp) ?rdy111
  refine AllReadyH.cons (List.getElem?_toArray.trans rfl) (fun K hK => ?stp111) AllReadyH.nil
  go_simp
  go_wp2_with fail
  (refine (CL.out _).mono ?_; rintro e w3 ⟨rfl, hb3⟩; have R3 := R.via hb3 rfl rfl rfl rfl)
  go_wp2_with fail
  refine hK.out _ _ ?hSn111 (fun hHeld2 => ?rest111)
  case hSn111 => (first | with_reducible exact S0.drew | with_reducible exact hHeld.below hb3 | with_reducible exact hHeld.below hb4 | with_reducible exact hHeld | with_reducible exact hHeld.far4 (by omega) (by omega) _ _ _ _)
  clear hK K hHeld
  have hHeld := hHeld2
  clear hHeld2
  try simp only [Act.put, List.setIfInBounds_toArray, List.set_cons_zero, List.set_cons_succ]
  refine wpAnyH_ready (rs := [11]) (by kernel_rfl) (by simp) ?rdy112
  refine AllReadyH.cons (List.getElem?_toArray.trans rfl) (fun K hK => ?stp112) AllReadyH.nil
  go_simp
  go_wp2_with fail
  skip
  go_wp2_with fail
  refine hK.out _ _ ?hSn112 (fun hHeld2 => ?rest112)
  case hSn112 => (first | with_reducible exact S0.drew | with_reducible exact hHeld.below hb3 | with_reducible exact hHeld.below hb4 | with_reducible exact hHeld | with_reducible exact hHeld.far4 (by omega) (by omega) _ _ _ _)
  clear hK K hHeld
  have hHeld := hHeld2
  clear hHeld2
  try simp only [Act.put, List.setIfInBounds_toArray, List.set_cons_zero, List.set_cons_succ]
  refine wpAnyH_ready (rs := [12]) (by kernel_rfl) (by simp) ?rdy113
  refine AllReadyH.cons (List.getElem?_toArray.trans rfl) (fun K hK => ?stp113) AllReadyH.nil
  go_simp
  go_wp2_with fail
  (refine (CO.out _).mono ?_; rintro e w4 ⟨rfl, hb4⟩; have R4 := R3.via hb4 rfl rfl rfl rfl; obtain ⟨r0, r1, r2, r3, r4, r5, r6, r7, r8⟩ := R4.2.1.four)
  go_wp2_with fail
  refine hK.out _ _ ?hSn113 (fun hHeld2 => ?rest113)
  case hSn113 => (first | with_reducible exact S0.drew | with_reducible exact hHeld.below hb3 | with_reducible exact hHeld.below hb4 | with_reducible exact hHeld | with_reducible exact hHeld.far4 (by omega) (by omega) _ _ _ _)
  clear hK K hHeld
  have hHeld := hHeld2
  clear hHeld2
  try simp only [Act.put, List.setIfInBounds_toArray, List.set_cons_zero, List.set_cons_succ]
  refine wpAnyH_take (i := 13) (oi := _) (v := ?v114) (List.getElem?_toArray.trans rfl) (by kernel_rfl) (by kernel_rfl) (by kernel_rfl) (fun _ _ _ h => h) (Or.inl ⟨by rfl, ?hy114⟩) (by assumption) ?rest114
  case hy114 => (intro wq hSw; (try simp only [Two, PP] at hSw); go_simp; try with_reducible rfl)
  try simp only [Act.put, List.setIfInBounds_toArray, List.set_cons_zero, List.set_cons_succ]
  refine wpAnyH_take (i := 14) (oi := _) (v := ?v115) (List.getElem?_toArray.trans rfl) (by kernel_rfl) (by kernel_rfl) (by kernel_rfl) (fun _ _ _ h => h) (Or.inl ⟨by rfl, ?hy115⟩) (by assumption) ?rest115
  case hy115 => (intro wq hSw; (try simp only [Two, PP] at hSw); go_simp; try with_reducible rfl)
  try simp only [Act.put, List.setIfInBounds_toArray, List.set_cons_zero, List.set_cons_succ]
  refine wpAnyH_ready (rs := [15]) (by kernel_rfl) (by simp) ?rdy116
  refine AllReadyH.cons (List.getElem?_toArray.trans rfl) (fun K hK => ?stp116) AllReadyH.nil
  go_simp
  go_wp2_with fail
  skip
  go_wp2_with fail
  refine hK.out _ _ ?hSn116 (fun hHeld2 => ?rest116)
  case hSn116 => (first | with_reducible exact S0.drew | with_reducible exact hHeld.below hb3 | with_reducible exact hHeld.below hb4 | with_reducible exact hHeld | with_reducible exact hHeld.far4 (by omega) (by omega) _ _ _ _)
  clear hK K hHeld
  have hHeld := hHeld2
  clear hHeld2
  try simp only [Act.put, List.setIfInBounds_toArray, List.set_cons_zero, List.set_cons_succ]
  refine wpAnyH_take (i := 16) (oi := _) (v := ?v117) (List.getElem?_toArray.trans rfl) (by kernel_rfl) (by kernel_rfl) (by kernel_rfl) (fun _ _ _ h => h) (Or.inl ⟨by rfl, ?hy117⟩) (by assumption) ?rest117
  case hy117 => (intro wq hSw; (try simp only [Two, PP] at hSw); go_simp; try with_reducible rfl)
  try simp only [Act.put, List.setIfInBounds_toArray, List.set_cons_zero, List.set_cons_succ]
  refine wpAnyH_done (by kernel_rfl) ?fin100 _
  have B4 := R4.2.2
  go_wp2
  refine bodyPost_ret (v := .tuple #[pv v rh rl K, .int .i64 0]) (by simp [results, Tryz.results22, go_sem, World.cell?_setCell_same', World.cell?_setCell_other, *]) rfl ⟨rfl, by repeat (first | with_reducible exact Below.refl _ _ | with_reducible refine Below.drew ?_ | with_reducible refine Below.alloc ?_ (by first | omega | (simp <;> omega)) _ | with_reducible refine Below.setCell ?_ (by first | omega | (simp <;> omega)) _ | with_reducible refine Below.trans ?_ (Below.mono B4 (by first | omega | (simp <;> omega))))⟩

set_option maxRecDepth 100000 in
set_option maxHeartbeats 1600000 in
theorem common_B {v : Bool} {ph pl b qh ql c rh rl K : Int} (h1 : c < b) (g1 : c ≤ b) (h2 : ¬ K < c) (g2 : c ≤ K)
    (CL : Hid (∀ w', Calls Tryz.prog 57 #[av v ph pl, av v qh ql] w' fun e w1 => e = .returned (.int .i64 K) ∧ Below w'.heap.size w' w1))
    (CO : Hid (∀ w', Calls Tryz.prog 48 #[av v ph pl, .int .i64 c] w' fun e w1 => e = .returned (.tuple #[pv v rh rl c, .int .i64 0]) ∧ Below w'.heap.size w' w1))
    (C1 : Hid (∀ w', Calls Tryz.prog 49 #[pv v ph pl b] w' fun e w1 => e = .returned (.bool true) ∧ Below w'.heap.size w' w1))
    (C2 : Hid (∀ w', Calls Tryz.prog 49 #[pv v qh ql c] w' fun e w1 => e = .returned (.bool true) ∧ Below w'.heap.size w' w1)) (w : World) :
    Calls Tryz.prog 22 #[pv v ph pl b, pv v qh ql c] w fun e w' => e = .returned (.tuple #[pv v rh rl c, .int .i64 0]) ∧ Below w.heap.size w w' := by
  have R := CK.start w v ph pl b v qh ql c
  have F := R.1.1
  go_enter Tryz.func22, Tryz.ntmps22
  go_wp2_with fail
  refine (C1.out _).mono ?_
  rintro e w1 ⟨rfl, hb1⟩
  replace R := R.below hb1
  replace F := R.1.1
  clear C1 hb1
  go_wp2_with fail
  refine (C2.out _).mono ?_
  rintro e w2 ⟨rfl, hb2⟩
  replace R := R.below hb2
  replace F := R.1.1
  clear C2 hb2
  go_upto_region 3 with fail
  have S0 := R.1
  clear F
  refine wp_region_held_drew (S := (PP w.heap.size (w.heap.size + 1) v ph pl b v qh ql c)) (by kernel_rfl) ?hS200 (fun hHeld => ?rest200)
  case hS200 => (first | with_reducible exact S0.drew | with_reducible exact hHeld.below hb3 | with_reducible exact hHeld.below hb4 | with_reducible exact hHeld | with_reducible exact hHeld.far4 (by omega) (by omega) _ _ _ _)
  refine wpAnyH_take (i := 0) (oi := _) (v := ?v201) (List.getElem?_toArray.trans rfl) (by kernel_rfl) (by kernel_rfl) (by kernel_rfl) (fun _ _ _ h => h) (Or.inl ⟨by rfl, ?hy201⟩) (by assumption) ?rest201
  case hy201 => (intro wq hSw; (try simp only [Two, PP] at hSw); go_simp; try with_reducible rfl)
  try simp only [Act.put, List.setIfInBounds_toArray, List.set_cons_zero, List.set_cons_succ]
  refine wpAnyH_take (i := 1) (oi := _) (v := ?v202) (List.getElem?_toArray.trans rfl) (by kernel_rfl) (by kernel_rfl) (by kernel_rfl) (fun _ _ _ h => h) (Or.inl ⟨by rfl, ?hy202⟩) (by assumption) ?rest202
  case hy202 => (intro wq hSw; (try simp only [Two, PP] at hSw); go_simp; try with_reducible rfl)
  try simp only [Act.put, List.setIfInBounds_toArray, List.set_cons_zero, List.set_cons_succ]
  refine wpAnyH_take (i := 2) (oi := _) (v := ?v203) (List.getElem?_toArray.trans rfl) (by kernel_rfl) (by kernel_rfl) (by kernel_rfl) (fun _ _ _ h => h) (Or.inl ⟨by rfl, ?hy203⟩) (by assumption) ?rest203
  case hy203 => (intro wq hSw; (try simp only [Two, PP] at hSw); go_simp; try with_reducible rfl)
  try simp only [Act.put, List.setIfInBounds_toArray, List.set_cons_zero, List.set_cons_succ]
  refine wpAnyH_take (i := 3) (oi := _) (v := ?v204) (List.getElem?_toArray.trans rfl) (by kernel_rfl) (by kernel_rfl) (by kernel_rfl) (fun _ _ _ h => h) (Or.inl ⟨by rfl, ?hy204⟩) (by assumption) ?rest204
  case hy204 => (intro wq hSw; (try simp only [Two, PP] at hSw); go_simp; try with_reducible rfl)
  try simp only [Act.put, List.setIfInBounds_toArray, List.set_cons_zero, List.set_cons_succ]
  refine wpAnyH_take (i := 4) (oi := _) (v := ?v205) (List.getElem?_toArray.trans rfl) (by kernel_rfl) (by kernel_rfl) (by kernel_rfl) (fun _ _ _ h => h) (Or.inl ⟨by rfl, ?hy205⟩) (by assumption) ?rest205
  case hy205 => (intro wq hSw; (try simp only [Two, PP] at hSw); go_simp; try with_reducible rfl)
  try simp only [Act.put, List.setIfInBounds_toArray, List.set_cons_zero, List.set_cons_succ]
  refine wpAnyH_take (i := 5) (oi := _) (v := ?v206) (List.getElem?_toArray.trans rfl) (by kernel_rfl) (by kernel_rfl) (by kernel_rfl) (fun _ _ _ h => h) (Or.inl ⟨by rfl, ?hy206⟩) (by assumption) ?rest206
  case hy206 => (intro wq hSw; (try simp only [Two, PP] at hSw); go_simp; try with_reducible rfl)
  try simp only [Act.put, List.setIfInBounds_toArray, List.set_cons_zero, List.set_cons_succ]
  refine wpAnyH_take (i := 6) (oi := _) (v := ?v207) (List.getElem?_toArray.trans rfl) (by kernel_rfl) (by kernel_rfl) (by kernel_rfl) (fun _ _ _ h => h) (Or.inl ⟨by rfl, ?hy207⟩) (by assumption) ?rest207
  case hy207 => (intro wq hSw; (try simp only [Two, PP] at hSw); go_simp; try with_reducible rfl)
  try simp only [Act.put, List.setIfInBounds_toArray, List.set_cons_zero, List.set_cons_succ]
  refine wpAnyH_take (i := 7) (oi := _) (v := ?v208) (List.getElem?_toArray.trans rfl) (by kernel_rfl) (by kernel_rfl) (by kernel_rfl) (fun _ _ _ h => h) (Or.inl ⟨by rfl, ?hy208⟩) (by assumption) ?rest208
  case hy208 => (intro wq hSw; (try simp only [Two, PP] at hSw); go_simp; try with_reducible rfl)
  try simp only [Act.put, List.setIfInBounds_toArray, List.set_cons_zero, List.set_cons_succ]
  refine wpAnyH_take (i := 8) (oi := _) (v := ?v209) (List.getElem?_toArray.trans rfl) (by kernel_rfl) (by kernel_rfl) (by kernel_rfl) (fun _ _ _ h => h) (Or.inl ⟨by rfl, ?hy209⟩) (by assumption) ?rest209
  case hy209 => (intro wq hSw; (try simp only [Two, PP] at hSw); go_simp; try with_reducible rfl)
  try simp only [Act.put, List.setIfInBounds_toArray, List.set_cons_zero, List.set_cons_succ]
  refine wpAnyH_take (i := 9) (oi := _) (v := ?v210) (List.getElem?_toArray.trans rfl) (by kernel_rfl) (by kernel_rfl) (by kernel_rfl) (fun _ _ _ h => h) (Or.inl ⟨by rfl, ?hy210⟩) (by assumption) ?rest210
  case hy210 => (intro wq hSw; (try simp only [Two, PP] at hSw); go_simp; try with_reducible rfl)
  try simp only [Act.put, List.setIfInBounds_toArray, List.set_cons_zero, List.set_cons_succ]
  refine wpAnyH_ready (rs := [10]) (by kernel_rfl) (by simp) ?rdy211
  refine AllReadyH.cons (List.getElem?_toArray.trans rfl) (fun K hK => ?stp211) AllReadyH.nil
  go_simp
  go_wp2_with fail
  (refine (CL.out _).mono ?_; rintro e w3 ⟨rfl, hb3⟩; have R3 := R.via hb3 rfl rfl rfl rfl)
  go_wp2_with fail
  refine hK.out _ _ ?hSn211 (fun hHeld2 => ?rest211)
  case hSn211 => (first | with_reducible exact S0.drew | with_reducible exact hHeld.below hb3 | with_reducible exact hHeld.below hb4 | with_reducible exact hHeld | with_reducible exact hHeld.far4 (by omega) (by omega) _ _ _ _)
  clear hK K hHeld
  have hHeld := hHeld2
  clear hHeld2
  try simp only [Act.put, List.setIfInBounds_toArray, List.set_cons_zero, List.set_cons_succ]
  refine wpAnyH_ready (rs := [11]) (by kernel_rfl) (by simp) ?rdy212
  refine AllReadyH.cons (List.getElem?_toArray.trans rfl) (fun K hK => ?stp212) AllReadyH.nil
  go_simp
  go_wp2_with fail
  skip
  go_wp2_with fail
  refine hK.out _ _ ?hSn212 (fun hHeld2 => ?rest212)
  case hSn212 => (first | with_reducible exact S0.drew | with_reducible exact hHeld.below hb3 | with_reducible exact hHeld.below hb4 | with_reducible exact hHeld | with_reducible exact hHeld.far4 (by omega) (by omega) _ _ _ _)
  clear hK K hHeld
  have hHeld := hHeld2
  clear hHeld2
  try simp only [Act.put, List.setIfInBounds_toArray, List.set_cons_zero, List.set_cons_succ]
  refine wpAnyH_ready (rs := [12]) (by kernel_rfl) (by simp) ?rdy213
  refine AllReadyH.cons (List.getElem?_toArray.trans rfl) (fun K hK => ?stp213) AllReadyH.nil
  go_simp
  go_wp2_with fail
  (refine (CO.out _).mono ?_; rintro e w4 ⟨rfl, hb4⟩; have R4 := R3.via hb4 rfl rfl rfl rfl; obtain ⟨r0, r1, r2, r3, r4, r5, r6, r7, r8⟩ := R4.2.1.four)
  go_wp2_with fail
  refine hK.out _ _ ?hSn213 (fun hHeld2 => ?rest213)
  case hSn213 => (first | with_reducible exact S0.drew | with_reducible exact hHeld.below hb3 | with_reducible exact hHeld.below hb4 | with_reducible exact hHeld | with_reducible exact hHeld.far4 (by omega) (by omega) _ _ _ _)
  clear hK K hHeld
  have hHeld := hHeld2
  clear hHeld2
  try simp only [Act.put, List.setIfInBounds_toArray, List.set_cons_zero, List.set_cons_succ]
  refine wpAnyH_take (i := 13) (oi := _) (v := ?v214) (List.getElem?_toArray.trans rfl) (by kernel_rfl) (by kernel_rfl) (by kernel_rfl) (fun _ _ _ h => h) (Or.inl ⟨by rfl, ?hy214⟩) (by assumption) ?rest214
  case hy214 => (intro wq hSw; (try simp only [Two, PP] at hSw); go_simp; try with_reducible rfl)
  try simp only [Act.put, List.setIfInBounds_toArray, List.set_cons_zero, List.set_cons_succ]
  refine wpAnyH_take (i := 14) (oi := _) (v := ?v215) (List.getElem?_toArray.trans rfl) (by kernel_rfl) (by kernel_rfl) (by kernel_rfl) (fun _ _ _ h => h) (Or.inl ⟨by rfl, ?hy215⟩) (by assumption) ?rest215
  case hy215 => (intro wq hSw; (try simp only [Two, PP] at hSw); go_simp; try with_reducible rfl)
  try simp only [Act.put, List.setIfInBounds_toArray, List.set_cons_zero, List.set_cons_succ]
  refine wpAnyH_ready (rs := [15]) (by kernel_rfl) (by simp) ?rdy216
  refine AllReadyH.cons (List.getElem?_toArray.trans rfl) (fun K hK => ?stp216) AllReadyH.nil
  go_simp
  go_wp2_with fail
  skip
  go_wp2_with fail
  refine hK.out _ _ ?hSn216 (fun hHeld2 => ?rest216)
  case hSn216 => (first | with_reducible exact S0.drew | with_reducible exact hHeld.below hb3 | with_reducible exact hHeld.below hb4 | with_reducible exact hHeld | with_reducible exact hHeld.far4 (by omega) (by omega) _ _ _ _)
  clear hK K hHeld
  have hHeld := hHeld2
  clear hHeld2
  try simp only [Act.put, List.setIfInBounds_toArray, List.set_cons_zero, List.set_cons_succ]
  refine wpAnyH_take (i := 16) (oi := _) (v := ?v217) (List.getElem?_toArray.trans rfl) (by kernel_rfl) (by kernel_rfl) (by kernel_rfl) (fun _ _ _ h => h) (Or.inl ⟨by rfl, ?hy217⟩) (by assumption) ?rest217
  case hy217 => (intro wq hSw; (try simp only [Two, PP] at hSw); go_simp; try with_reducible rfl)
  try simp only [Act.put, List.setIfInBounds_toArray, List.set_cons_zero, List.set_cons_succ]
  refine wpAnyH_done (by kernel_rfl) ?fin200 _
  have B4 := R4.2.2
  go_wp2
  refine bodyPost_ret (v := .tuple #[pv v rh rl c, .int .i64 0]) (by simp [results, Tryz.results22, go_sem, World.cell?_setCell_same', World.cell?_setCell_other, *]) rfl ⟨rfl, by repeat (first | with_reducible exact Below.refl _ _ | with_reducible refine Below.drew ?_ | with_reducible refine Below.alloc ?_ (by first | omega | (simp <;> omega)) _ | with_reducible refine Below.setCell ?_ (by first | omega | (simp <;> omega)) _ | with_reducible refine Below.trans ?_ (Below.mono B4 (by first | omega | (simp <;> omega))))⟩

set_option maxRecDepth 100000 in
set_option maxHeartbeats 1600000 in
theorem common_C {v : Bool} {ph pl b qh ql c rh rl K : Int} (h1 : ¬ c < b) (g1 : b ≤ c) (h2 : K < b) (g2 : K ≤ b)
    (CL : Hid (∀ w', Calls Tryz.prog 57 #[av v ph pl, av v qh ql] w' fun e w1 => e = .returned (.int .i64 K) ∧ Below w'.heap.size w' w1))
    (CO : Hid (∀ w', Calls Tryz.prog 48 #[av v ph pl, .int .i64 K] w' fun e w1 => e = .returned (.tuple #[pv v rh rl K, .int .i64 0]) ∧ Below w'.heap.size w' w1))
    (C1 : Hid (∀ w', Calls Tryz.prog 49 #[pv v ph pl b] w' fun e w1 => e = .returned (.bool true) ∧ Below w'.heap.size w' w1))
    (C2 : Hid (∀ w', Calls Tryz.prog 49 #[pv v qh ql c] w' fun e w1 => e = .returned (.bool true) ∧ Below w'.heap.size w' w1)) (w : World) :
    Calls Tryz.prog 22 #[pv v ph pl b, pv v qh ql c] w fun e w' => e = .returned (.tuple #[pv v rh rl K, .int .i64 0]) ∧ Below w.heap.size w w' := by
  have R := CK.start w v ph pl b v qh ql c
  have F := R.1.1
  go_enter Tryz.func22, Tryz.ntmps22
  go_wp2_with fail
  refine (C1.out _).mono ?_
  rintro e w1 ⟨rfl, hb1⟩
  replace R := R.below hb1
  replace F := R.1.1
  clear C1 hb1
  go_wp2_with fail
  refine (C2.out _).mono ?_
  rintro e w2 ⟨rfl, hb2⟩
  replace R := R.below hb2
  replace F := R.1.1
  clear C2 hb2
  go_upto_region 3 with fail
  have S0 := R.1
  clear F
  refine wp_region_held_drew (S := (PP w.heap.size (w.heap.size + 1) v ph pl b v qh ql c)) (by kernel_rfl) ?hS300 (fun hHeld => ?rest300)
  case hS300 => (first | with_reducible exact S0.drew | with_reducible exact hHeld.below hb3 | with_reducible exact hHeld.below hb4 | with_reducible exact hHeld | with_reducible exact hHeld.far4 (by omega) (by omega) _ _ _ _)
  refine wpAnyH_take (i := 0) (oi := _) (v := ?v301) (List.getElem?_toArray.trans rfl) (by kernel_rfl) (by kernel_rfl) (by kernel_rfl) (fun _ _ _ h => h) (Or.inl ⟨by rfl, ?hy301⟩) (by assumption) ?rest301
  case hy301 => (intro wq hSw; (try simp only [Two, PP] at hSw); go_simp; try with_reducible rfl)
  try simp only [Act.put, List.setIfInBounds_toArray, List.set_cons_zero, List.set_cons_succ]
  refine wpAnyH_take (i := 1) (oi := _) (v := ?v302) (List.getElem?_toArray.trans rfl) (by kernel_rfl) (by kernel_rfl) (by kernel_rfl) (fun _ _ _ h => h) (Or.inl ⟨by rfl, ?hy302⟩) (by assumption) ?rest302
  case hy302 => (intro wq hSw; (try simp only [Two, PP] at hSw); go_simp; try with_reducible rfl)
  try simp only [Act.put, List.setIfInBounds_toArray, List.set_cons_zero, List.set_cons_succ]
  refine wpAnyH_take (i := 2) (oi := _) (v := ?v303) (List.getElem?_toArray.trans rfl) (by kernel_rfl) (by kernel_rfl) (by kernel_rfl) (fun _ _ _ h => h) (Or.inl ⟨by rfl, ?hy303⟩) (by assumption) ?rest303
  case hy303 => (intro wq hSw; (try simp only [Two, PP] at hSw); go_simp; try with_reducible rfl)
  try simp only [Act.put, List.setIfInBounds_toArray, List.set_cons_zero, List.set_cons_succ]
  refine wpAnyH_take (i := 3) (oi := _) (v := ?v304) (List.getElem?_toArray.trans rfl) (by kernel_rfl) (by kernel_rfl) (by kernel_rfl) (fun _ _ _ h => h) (Or.inl ⟨by rfl, ?hy304⟩) (by assumption) ?rest304
  case hy304 => (intro wq hSw; (try simp only [Two, PP] at hSw); go_simp; try with_reducible rfl)
  try simp only [Act.put, List.setIfInBounds_toArray, List.set_cons_zero, List.set_cons_succ]
  refine wpAnyH_take (i := 4) (oi := _) (v := ?v305) (List.getElem?_toArray.trans rfl) (by kernel_rfl) (by kernel_rfl) (by kernel_rfl) (fun _ _ _ h => h) (Or.inl ⟨by rfl, ?hy305⟩) (by assumption) ?rest305
  case hy305 => (intro wq hSw; (try simp only [Two, PP] at hSw); go_simp; try with_reducible rfl)
  try simp only [Act.put, List.setIfInBounds_toArray, List.set_cons_zero, List.set_cons_succ]
  refine wpAnyH_take (i := 5) (oi := _) (v := ?v306) (List.getElem?_toArray.trans rfl) (by kernel_rfl) (by kernel_rfl) (by kernel_rfl) (fun _ _ _ h => h) (Or.inl ⟨by rfl, ?hy306⟩) (by assumption) ?rest306
  case hy306 => (intro wq hSw; (try simp only [Two, PP] at hSw); go_simp; try with_reducible rfl)
  try simp only [Act.put, List.setIfInBounds_toArray, List.set_cons_zero, List.set_cons_succ]
  refine wpAnyH_take (i := 6) (oi := _) (v := ?v307) (List.getElem?_toArray.trans rfl) (by kernel_rfl) (by kernel_rfl) (by kernel_rfl) (fun _ _ _ h => h) (Or.inl ⟨by rfl, ?hy307⟩) (by assumption) ?rest307
  case hy307 => (intro wq hSw; (try simp only [Two, PP] at hSw); go_simp; try with_reducible rfl)
  try simp only [Act.put, List.setIfInBounds_toArray, List.set_cons_zero, List.set_cons_succ]
  refine wpAnyH_take (i := 7) (oi := _) (v := ?v308) (List.getElem?_toArray.trans rfl) (by kernel_rfl) (by kernel_rfl) (by kernel_rfl) (fun _ _ _ h => h) (Or.inl ⟨by rfl, ?hy308⟩) (by assumption) ?rest308
  case hy308 => (intro wq hSw; (try simp only [Two, PP] at hSw); go_simp; try with_reducible rfl)
  try simp only [Act.put, List.setIfInBounds_toArray, List.set_cons_zero, List.set_cons_succ]
  refine wpAnyH_take (i := 8) (oi := _) (v := ?v309) (List.getElem?_toArray.trans rfl) (by kernel_rfl) (by kernel_rfl) (by kernel_rfl) (fun _ _ _ h => h) (Or.inl ⟨by rfl, ?hy309⟩) (by assumption) ?rest309
  case hy309 => (intro wq hSw; (try simp only [Two, PP] at hSw); go_simp; try with_reducible rfl)
  try simp only [Act.put, List.setIfInBounds_toArray, List.set_cons_zero, List.set_cons_succ]
  refine wpAnyH_take (i := 9) (oi := _) (v := ?v310) (List.getElem?_toArray.trans rfl) (by kernel_rfl) (by kernel_rfl) (by kernel_rfl) (fun _ _ _ h => h) (Or.inl ⟨by rfl, ?hy310⟩) (by assumption) ?rest310
  case hy310 => (intro wq hSw; (try simp only [Two, PP] at hSw); go_simp; try with_reducible rfl)
  try simp only [Act.put, List.setIfInBounds_toArray, List.set_cons_zero, List.set_cons_succ]
  refine wpAnyH_ready (rs := [10]) (by kernel_rfl) (by simp) ?rdy311
  refine AllReadyH.cons (List.getElem?_toArray.trans rfl) (fun K hK => ?stp311) AllReadyH.nil
  go_simp
  go_wp2_with fail
  (refine (CL.out _).mono ?_; rintro e w3 ⟨rfl, hb3⟩; have R3 := R.via hb3 rfl rfl rfl rfl)
  go_wp2_with fail
  refine hK.out _ _ ?hSn311 (fun hHeld2 => ?rest311)
  case hSn311 => (first | with_reducible exact S0.drew | with_reducible exact hHeld.below hb3 | with_reducible exact hHeld.below hb4 | with_reducible exact hHeld | with_reducible exact hHeld.far4 (by omega) (by omega) _ _ _ _)
  clear hK K hHeld
  have hHeld := hHeld2
  clear hHeld2
  try simp only [Act.put, List.setIfInBounds_toArray, List.set_cons_zero, List.set_cons_succ]
  refine wpAnyH_ready (rs := [11]) (by kernel_rfl) (by simp) ?rdy312
  refine AllReadyH.cons (List.getElem?_toArray.trans rfl) (fun K hK => ?stp312) AllReadyH.nil
  go_simp
  go_wp2_with fail
  skip
  go_wp2_with fail
  refine hK.out _ _ ?hSn312 (fun hHeld2 => ?rest312)
  case hSn312 => (first | with_reducible exact S0.drew | with_reducible exact hHeld.below hb3 | with_reducible exact hHeld.below hb4 | with_reducible exact hHeld | with_reducible exact hHeld.far4 (by omega) (by omega) _ _ _ _)
  clear hK K hHeld
  have hHeld := hHeld2
  clear hHeld2
  try simp only [Act.put, List.setIfInBounds_toArray, List.set_cons_zero, List.set_cons_succ]
  refine wpAnyH_ready (rs := [12]) (by kernel_rfl) (by simp) ?rdy313
  refine AllReadyH.cons (List.getElem?_toArray.trans rfl) (fun K hK => ?stp313) AllReadyH.nil
  go_simp
  go_wp2_with fail
  (refine (CO.out _).mono ?_; rintro e w4 ⟨rfl, hb4⟩; have R4 := R3.via hb4 rfl rfl rfl rfl; obtain ⟨r0, r1, r2, r3, r4, r5, r6, r7, r8⟩ := R4.2.1.four)
  go_wp2_with fail
  refine hK.out _ _ ?hSn313 (fun hHeld2 => ?rest313)
  case hSn313 => (first | with_reducible exact S0.drew | with_reducible exact hHeld.below hb3 | with_reducible exact hHeld.below hb4 | with_reducible exact hHeld | with_reducible exact hHeld.far4 (by omega) (by omega) _ _ _ _)
  clear hK K hHeld
  have hHeld := hHeld2
  clear hHeld2
  try simp only [Act.put, List.setIfInBounds_toArray, List.set_cons_zero, List.set_cons_succ]
  refine wpAnyH_take (i := 13) (oi := _) (v := ?v314) (List.getElem?_toArray.trans rfl) (by kernel_rfl) (by kernel_rfl) (by kernel_rfl) (fun _ _ _ h => h) (Or.inl ⟨by rfl, ?hy314⟩) (by assumption) ?rest314
  case hy314 => (intro wq hSw; (try simp only [Two, PP] at hSw); go_simp; try with_reducible rfl)
  try simp only [Act.put, List.setIfInBounds_toArray, List.set_cons_zero, List.set_cons_succ]
  refine wpAnyH_take (i := 14) (oi := _) (v := ?v315) (List.getElem?_toArray.trans rfl) (by kernel_rfl) (by kernel_rfl) (by kernel_rfl) (fun _ _ _ h => h) (Or.inl ⟨by rfl, ?hy315⟩) (by assumption) ?rest315
  case hy315 => (intro wq hSw; (try simp only [Two, PP] at hSw); go_simp; try with_reducible rfl)
  try simp only [Act.put, List.setIfInBounds_toArray, List.set_cons_zero, List.set_cons_succ]
  refine wpAnyH_ready (rs := [15]) (by kernel_rfl) (by simp) ?rdy316
  refine AllReadyH.cons (List.getElem?_toArray.trans rfl) (fun K hK => ?stp316) AllReadyH.nil
  go_simp
  go_wp2_with fail
  skip
  go_wp2_with fail
  refine hK.out _ _ ?hSn316 (fun hHeld2 => ?rest316)
  case hSn316 => (first | with_reducible exact S0.drew | with_reducible exact hHeld.below hb3 | with_reducible exact hHeld.below hb4 | with_reducible exact hHeld | with_reducible exact hHeld.far4 (by omega) (by omega) _ _ _ _)
  clear hK K hHeld
  have hHeld := hHeld2
  clear hHeld2
  try simp only [Act.put, List.setIfInBounds_toArray, List.set_cons_zero, List.set_cons_succ]
  refine wpAnyH_take (i := 16) (oi := _) (v := ?v317) (List.getElem?_toArray.trans rfl) (by kernel_rfl) (by kernel_rfl) (by kernel_rfl) (fun _ _ _ h => h) (Or.inl ⟨by rfl, ?hy317⟩) (by assumption) ?rest317
  case hy317 => (intro wq hSw; (try simp only [Two, PP] at hSw); go_simp; try with_reducible rfl)
  try simp only [Act.put, List.setIfInBounds_toArray, List.set_cons_zero, List.set_cons_succ]
  refine wpAnyH_done (by kernel_rfl) ?fin300 _
  have B4 := R4.2.2
  go_wp2
  refine bodyPost_ret (v := .tuple #[pv v rh rl K, .int .i64 0]) (by simp [results, Tryz.results22, go_sem, World.cell?_setCell_same', World.cell?_setCell_other, *]) rfl ⟨rfl, by repeat (first | with_reducible exact Below.refl _ _ | with_reducible refine Below.drew ?_ | with_reducible refine Below.alloc ?_ (by first | omega | (simp <;> omega)) _ | with_reducible refine Below.setCell ?_ (by first | omega | (simp <;> omega)) _ | with_reducible refine Below.trans ?_ (Below.mono B4 (by first | omega | (simp <;> omega))))⟩

set_option maxRecDepth 100000 in
set_option maxHeartbeats 1600000 in
theorem common_D {v : Bool} {ph pl b qh ql c rh rl K : Int} (h1 : ¬ c < b) (g1 : b ≤ c) (h2 : ¬ K < b) (g2 : b ≤ K)
    (CL : Hid (∀ w', Calls Tryz.prog 57 #[av v ph pl, av v qh ql] w' fun e w1 => e = .returned (.int .i64 K) ∧ Below w'.heap.size w' w1))
    (CO : Hid (∀ w', Calls Tryz.prog 48 #[av v ph pl, .int .i64 b] w' fun e w1 => e = .returned (.tuple #[pv v rh rl b, .int .i64 0]) ∧ Below w'.heap.size w' w1))
    (C1 : Hid (∀ w', Calls Tryz.prog 49 #[pv v ph pl b] w' fun e w1 => e = .returned (.bool true) ∧ Below w'.heap.size w' w1))
    (C2 : Hid (∀ w', Calls Tryz.prog 49 #[pv v qh ql c] w' fun e w1 => e = .returned (.bool true) ∧ Below w'.heap.size w' w1)) (w : World) :
    Calls Tryz.prog 22 #[pv v ph pl b, pv v qh ql c] w fun e w' => e = .returned (.tuple #[pv v rh rl b, .int .i64 0]) ∧ Below w.heap.size w w' := by
  have R := CK.start w v ph pl b v qh ql c
  have F := R.1.1
  go_enter Tryz.func22, Tryz.ntmps22
  go_wp2_with fail
  refine (C1.out _).mono ?_
  rintro e w1 ⟨rfl, hb1⟩
  replace R := R.below hb1
  replace F := R.1.1
  clear C1 hb1
  go_wp2_with fail
  refine (C2.out _).mono ?_
  rintro e w2 ⟨rfl, hb2⟩
  replace R := R.below hb2
  replace F := R.1.1
  clear C2 hb2
  go_upto_region 3 with fail
  have S0 := R.1
  clear F
  refine wp_region_held_drew (S := (PP w.heap.size (w.heap.size + 1) v ph pl b v qh ql c)) (by kernel_rfl) ?hS400 (fun hHeld => ?rest400)
  case hS400 => (first | with_reducible exact S0.drew | with_reducible exact hHeld.below hb3 | with_reducible exact hHeld.below hb4 | with_reducible exact hHeld | with_reducible exact hHeld.far4 (by omega) (by omega) _ _ _ _)
  refine wpAnyH_take (i := 0) (oi := _) (v := ?v401) (List.getElem?_toArray.trans rfl) (by kernel_rfl) (by kernel_rfl) (by kernel_rfl) (fun _ _ _ h => h) (Or.inl ⟨by rfl, ?hy401⟩) (by assumption) ?rest401
  case hy401 => (intro wq hSw; (try simp only [Two, PP] at hSw); go_simp; try with_reducible rfl)
  try simp only [Act.put, List.setIfInBounds_toArray, List.set_cons_zero, List.set_cons_succ]
  refine wpAnyH_take (i := 1) (oi := _) (v := ?v402) (List.getElem?_toArray.trans rfl) (by kernel_rfl) (by kernel_rfl) (by kernel_rfl) (fun _ _ _ h => h) (Or.inl ⟨by rfl, ?hy402⟩) (by assumption) ?rest402
  case hy402 => (intro wq hSw; (try simp only [Two, PP] at hSw); go_simp; try with_reducible rfl)
  try simp only [Act.put, List.setIfInBounds_toArray, List.set_cons_zero, List.set_cons_succ]
  refine wpAnyH_take (i := 2) (oi := _) (v := ?v403) (List.getElem?_toArray.trans rfl) (by kernel_rfl) (by kernel_rfl) (by kernel_rfl) (fun _ _ _ h => h) (Or.inl ⟨by rfl, ?hy403⟩) (by assumption) ?rest403
  case hy403 => (intro wq hSw; (try simp only [Two, PP] at hSw); go_simp; try with_reducible rfl)
  try simp only [Act.put, List.setIfInBounds_toArray, List.set_cons_zero, List.set_cons_succ]
  refine wpAnyH_take (i := 3) (oi := _) (v := ?v404) (List.getElem?_toArray.trans rfl) (by kernel_rfl) (by kernel_rfl) (by kernel_rfl) (fun _ _ _ h => h) (Or.inl ⟨by rfl, ?hy404⟩) (by assumption) ?rest404
  case hy404 => (intro wq hSw; (try simp only [Two, PP] at hSw); go_simp; try with_reducible rfl)
  try simp only [Act.put, List.setIfInBounds_toArray, List.set_cons_zero, List.set_cons_succ]
  refine wpAnyH_take (i := 4) (oi := _) (v := ?v405) (List.getElem?_toArray.trans rfl) (by kernel_rfl) (by kernel_rfl) (by kernel_rfl) (fun _ _ _ h => h) (Or.inl ⟨by rfl, ?hy405⟩) (by assumption) ?rest405
  case hy405 => (intro wq hSw; (try simp only [Two, PP] at hSw); go_simp; try with_reducible rfl)
  try simp only [Act.put, List.setIfInBounds_toArray, List.set_cons_zero, List.set_cons_succ]
  refine wpAnyH_take (i := 5) (oi := _) (v := ?v406) (List.getElem?_toArray.trans rfl) (by kernel_rfl) (by kernel_rfl) (by kernel_rfl) (fun _ _ _ h => h) (Or.inl ⟨by rfl, ?hy406⟩) (by assumption) ?rest406
  case hy406 => (intro wq hSw; (try simp only [Two, PP] at hSw); go_simp; try with_reducible rfl)
  try simp only [Act.put, List.setIfInBounds_toArray, List.set_cons_zero, List.set_cons_succ]
  refine wpAnyH_take (i := 6) (oi := _) (v := ?v407) (List.getElem?_toArray.trans rfl) (by kernel_rfl) (by kernel_rfl) (by kernel_rfl) (fun _ _ _ h => h) (Or.inl ⟨by rfl, ?hy407⟩) (by assumption) ?rest407
  case hy407 => (intro wq hSw; (try simp only [Two, PP] at hSw); go_simp; try with_reducible rfl)
  try simp only [Act.put, List.setIfInBounds_toArray, List.set_cons_zero, List.set_cons_succ]
  refine wpAnyH_take (i := 7) (oi := _) (v := ?v408) (List.getElem?_toArray.trans rfl) (by kernel_rfl) (by kernel_rfl) (by kernel_rfl) (fun _ _ _ h => h) (Or.inl ⟨by rfl, ?hy408⟩) (by assumption) ?rest408
  case hy408 => (intro wq hSw; (try simp only [Two, PP] at hSw); go_simp; try with_reducible rfl)
  try simp only [Act.put, List.setIfInBounds_toArray, List.set_cons_zero, List.set_cons_succ]
  refine wpAnyH_take (i := 8) (oi := _) (v := ?v409) (List.getElem?_toArray.trans rfl) (by kernel_rfl) (by kernel_rfl) (by kernel_rfl) (fun _ _ _ h => h) (Or.inl ⟨by rfl, ?hy409⟩) (by assumption) ?rest409
  case hy409 => (intro wq hSw; (try simp only [Two, PP] at hSw); go_simp; try with_reducible rfl)
  try simp only [Act.put, List.setIfInBounds_toArray, List.set_cons_zero, List.set_cons_succ]
  refine wpAnyH_take (i := 9) (oi := _) (v := ?v410) (List.getElem?_toArray.trans rfl) (by kernel_rfl) (by kernel_rfl) (by kernel_rfl) (fun _ _ _ h => h) (Or.inl ⟨by rfl, ?hy410⟩) (by assumption) ?rest410
  case hy410 => (intro wq hSw; (try simp only [Two, PP] at hSw); go_simp; try with_reducible rfl)
  try simp only [Act.put, List.setIfInBounds_toArray, List.set_cons_zero, List.set_cons_succ]
  refine wpAnyH_ready (rs := [10]) (by kernel_rfl) (by simp) ?rdy411
  refine AllReadyH.cons (List.getElem?_toArray.trans rfl) (fun K hK => ?stp411) AllReadyH.nil
  go_simp
  go_wp2_with fail
  (refine (CL.out _).mono ?_; rintro e w3 ⟨rfl, hb3⟩; have R3 := R.via hb3 rfl rfl rfl rfl)
  go_wp2_with fail
  refine hK.out _ _ ?hSn411 (fun hHeld2 => ?rest411)
  case hSn411 => (first | with_reducible exact S0.drew | with_reducible exact hHeld.below hb3 | with_reducible exact hHeld.below hb4 | with_reducible exact hHeld | with_reducible exact hHeld.far4 (by omega) (by omega) _ _ _ _)
  clear hK K hHeld
  have hHeld := hHeld2
  clear hHeld2
  try simp only [Act.put, List.setIfInBounds_toArray, List.set_cons_zero, List.set_cons_succ]
  refine wpAnyH_ready (rs := [11]) (by kernel_rfl) (by simp) ?rdy412
  refine AllReadyH.cons (List.getElem?_toArray.trans rfl) (fun K hK => ?stp412) AllReadyH.nil
  go_simp
  go_wp2_with fail
  skip
  go_wp2_with fail
  refine hK.out _ _ ?hSn412 (fun hHeld2 => ?rest412)
  case hSn412 => (first | with_reducible exact S0.drew | with_reducible exact hHeld.below hb3 | with_reducible exact hHeld.below hb4 | with_reducible exact hHeld | with_reducible exact hHeld.far4 (by omega) (by omega) _ _ _ _)
  clear hK K hHeld
  have hHeld := hHeld2
  clear hHeld2
  try simp only [Act.put, List.setIfInBounds_toArray, List.set_cons_zero, List.set_cons_succ]
  refine wpAnyH_ready (rs := [12]) (by kernel_rfl) (by simp) ?rdy413
  refine AllReadyH.cons (List.getElem?_toArray.trans rfl) (fun K hK => ?stp413) AllReadyH.nil
  go_simp
  go_wp2_with fail
  (refine (CO.out _).mono ?_; rintro e w4 ⟨rfl, hb4⟩; have R4 := R3.via hb4 rfl rfl rfl rfl; obtain ⟨r0, r1, r2, r3, r4, r5, r6, r7, r8⟩ := R4.2.1.four)
  go_wp2_with fail
  refine hK.out _ _ ?hSn413 (fun hHeld2 => ?rest413)
  case hSn413 => (first | with_reducible exact S0.drew | with_reducible exact hHeld.below hb3 | with_reducible exact hHeld.below hb4 | with_reducible exact hHeld | with_reducible exact hHeld.far4 (by omega) (by omega) _ _ _ _)
  clear hK K hHeld
  have hHeld := hHeld2
  clear hHeld2
  try simp only [Act.put, List.setIfInBounds_toArray, List.set_cons_zero, List.set_cons_succ]
  refine wpAnyH_take (i := 13) (oi := _) (v := ?v414) (List.getElem?_toArray.trans rfl) (by kernel_rfl) (by kernel_rfl) (by kernel_rfl) (fun _ _ _ h => h) (Or.inl ⟨by rfl, ?hy414⟩) (by assumption) ?rest414
  case hy414 => (intro wq hSw; (try simp only [Two, PP] at hSw); go_simp; try with_reducible rfl)
  try simp only [Act.put, List.setIfInBounds_toArray, List.set_cons_zero, List.set_cons_succ]
  refine wpAnyH_take (i := 14) (oi := _) (v := ?v415) (List.getElem?_toArray.trans rfl) (by kernel_rfl) (by kernel_rfl) (by kernel_rfl) (fun _ _ _ h => h) (Or.inl ⟨by rfl, ?hy415⟩) (by assumption) ?rest415
  case hy415 => (intro wq hSw; (try simp only [Two, PP] at hSw); go_simp; try with_reducible rfl)
  try simp only [Act.put, List.setIfInBounds_toArray, List.set_cons_zero, List.set_cons_succ]
  refine wpAnyH_ready (rs := [15]) (by kernel_rfl) (by simp) ?rdy416
  refine AllReadyH.cons (List.getElem?_toArray.trans rfl) (fun K hK => ?stp416) AllReadyH.nil
  go_simp
  go_wp2_with fail
  skip
  go_wp2_with fail
  refine hK.out _ _ ?hSn416 (fun hHeld2 => ?rest416)
  case hSn416 => (first | with_reducible exact S0.drew | with_reducible exact hHeld.below hb3 | with_reducible exact hHeld.below hb4 | with_reducible exact hHeld | with_reducible exact hHeld.far4 (by omega) (by omega) _ _ _ _)
  clear hK K hHeld
  have hHeld := hHeld2
  clear hHeld2
  try simp only [Act.put, List.setIfInBounds_toArray, List.set_cons_zero, List.set_cons_succ]
  refine wpAnyH_take (i := 16) (oi := _) (v := ?v417) (List.getElem?_toArray.trans rfl) (by kernel_rfl) (by kernel_rfl) (by kernel_rfl) (fun _ _ _ h => h) (Or.inl ⟨by rfl, ?hy417⟩) (by assumption) ?rest417
  case hy417 => (intro wq hSw; (try simp only [Two, PP] at hSw); go_simp; try with_reducible rfl)
  try simp only [Act.put, List.setIfInBounds_toArray, List.set_cons_zero, List.set_cons_succ]
  refine wpAnyH_done (by kernel_rfl) ?fin400 _
  have B4 := R4.2.2
  go_wp2
  refine bodyPost_ret (v := .tuple #[pv v rh rl b, .int .i64 0]) (by simp [results, Tryz.results22, go_sem, World.cell?_setCell_same', World.cell?_setCell_other, *]) rfl ⟨rfl, by repeat (first | with_reducible exact Below.refl _ _ | with_reducible refine Below.drew ?_ | with_reducible refine Below.alloc ?_ (by first | omega | (simp <;> omega)) _ | with_reducible refine Below.setCell ?_ (by first | omega | (simp <;> omega)) _ | with_reducible refine Below.trans ?_ (Below.mono B4 (by first | omega | (simp <;> omega))))⟩

theorem common_ok {v : Bool} {ph pl b qh ql c rh rl mn : Int} {n m W k : Nat} (hp : IsNum ph pl n) (hq : IsNum qh ql m) (kp : okP v n b = true) (kq : okP v m c = true) (hW : widthA v = (W : Nat)) (hA : AlikeIs W (fun i => bitN n (W - 1 - i)) (fun i => bitN m (W - 1 - i)) k) (hmn : mn = min (min b c) ((k : Nat) : Int)) (hr : IsNum rh rl (ofN v n mn)) (w : World) :
    Calls Tryz.prog 22 #[pv v ph pl b, pv v qh ql c] w fun e w' => e = .returned (.tuple #[pv v rh rl mn, .int .i64 0]) ∧ Below w.heap.size w w' := by
  have op := (fitsB_parts (okP_parts kp).1)
  have oq := (fitsB_parts (okP_parts kq).1)
  have al := alike_len (pow_of_okA hW hp.lt op.1) (pow_of_okA hW hq.lt oq.1)
  have ek := hA.uniq al.2
  obtain ⟨K, hK⟩ : ∃ K : Int, K = ((k : Nat) : Int) := ⟨_, rfl⟩
  have CL : Hid (∀ w', Calls Tryz.prog 57 #[av v ph pl, av v qh ql] w' fun e w1 => e = .returned (.int .i64 K) ∧ Below w'.heap.size w' w1) := fun w' => alike_w hp hq hW (by rw [hK, ek]; have := al.1; omega) (by have := al.1; have := width_le v; omega) w'
  have hf : fitsB v n mn = true := by
    simp only [fitsB, op.1, Bool.true_and, Bool.and_eq_true, decide_eq_true_eq]
    have := op.2; have := oq.2
    omega
  have CO : Hid (∀ w', Calls Tryz.prog 48 #[av v ph pl, .int .i64 mn] w' fun e w1 => e = .returned (.tuple #[pv v rh rl mn, .int .i64 0]) ∧ Below w'.heap.size w' w1) := fun w' => of_ok hp hf hr w'
  have C1 : Hid (∀ w', Calls Tryz.prog 49 #[pv v ph pl b] w' fun e w1 => e = .returned (.bool true) ∧ Below w'.heap.size w' w1) := fun w' => kp ▸ pright_c hp w'
  have C2 : Hid (∀ w', Calls Tryz.prog 49 #[pv v qh ql c] w' fun e w1 => e = .returned (.bool true) ∧ Below w'.heap.size w' w1) := fun w' => kq ▸ pright_c hq w'
  rw [← hK] at hmn
  by_cases h1 : c < b
  · by_cases h2 : K < c
    · obtain rfl : mn = K := by omega
      exact common_A h1 (by omega) h2 (by omega) CL CO C1 C2 w
    · obtain rfl : mn = c := by omega
      exact common_B h1 (by omega) h2 (by omega) CL CO C1 C2 w
  · by_cases h2 : K < b
    · obtain rfl : mn = K := by omega
      exact common_C h1 (by omega) h2 (by omega) CL CO C1 C2 w
    · obtain rfl : mn = b := by omega
      exact common_D h1 (by omega) h2 (by omega) CL CO C1 C2 w
end Go.Proofs.YtmhnfgfdggjdhaaGreatDoor

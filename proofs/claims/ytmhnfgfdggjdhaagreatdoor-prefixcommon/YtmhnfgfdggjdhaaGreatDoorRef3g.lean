/-
  The reference's Common.
-/
import Derived.Test.YtmhnfgfdggjdhaaGreatDoorPfx10
namespace Go.Proofs.YtmhnfgfdggjdhaaGreatDoor
open Go.ChangeShapes Go.WideShapes Go.ChangeAt Go.RowKit
set_option linter.unusedVariables false
set_option linter.unusedSimpArgs false

theorem row_g {v : Bool} {W : Nat} (hW : widthA v = (W : Nat)) {h l : Int} {a : Nat} (ha : IsNum h l a) (w : World) :
    Calls Tryz.prog 59 #[av v h l] w fun e w' => ∃ g cap, e = .returned (.slice (some ⟨g, 0, none⟩) W cap) ∧ Rw w' g W (fun i => bitN a (W - 1 - i)) ∧ Below w.heap.size w w' := by
  cases v
  · have : W = 32 := by simp [widthA] at hW; omega
    subst this
    refine (row_32 ha w).mono ?_
    rintro e w' ⟨g, cap, h1, _, _, _, h5, h6⟩
    exact ⟨g, cap, h1, h5, h6⟩
  · have : W = 128 := by simp [widthA] at hW; omega
    subst this
    refine (row_128 ha w).mono ?_
    rintro e w' ⟨g, cap, h1, _, _, _, h5, h6⟩
    exact ⟨g, cap, h1, h5, h6⟩

theorem alike_g {v : Bool} {W : Nat} (hW : widthA v = (W : Nat)) (x y c d : Nat) (f g : Nat → Nat) (w : World) (hx : Rw w x W f) (hy : Rw w y W g) :
    Calls Tryz.prog 58 #[.slice (some ⟨x, 0, none⟩) W c, .slice (some ⟨y, 0, none⟩) W d] w fun e w' => ∃ k : Nat, e = .returned (.int .i64 (k : Nat)) ∧ AlikeIs W f g k ∧ Below w.heap.size w w' := by
  cases v
  · have : W = 32 := by simp [widthA] at hW; omega
    subst this
    exact alike_32 x y c d f g w hx hy
  · have : W = 128 := by simp [widthA] at hW; omega
    subst this
    exact alike_128 x y c d f g w hx hy

set_option maxRecDepth 100000 in
set_option maxHeartbeats 1600000 in
theorem rcommon_ok {v : Bool} {ph pl b qh ql c rh rl mn : Int} {n m W k : Nat} (hp : IsNum ph pl n) (hq : IsNum qh ql m) (kp : okP v n b = true) (kq : okP v m c = true) (hW : widthA v = (W : Nat)) (hA : AlikeIs W (fun i => bitN n (W - 1 - i)) (fun i => bitN m (W - 1 - i)) k) (hmn : mn = min (min b c) ((k : Nat) : Int)) (hr : IsNum rh rl (ofN v n mn)) (w : World) :
    Calls Tryz.prog 23 #[pv v ph pl b, pv v qh ql c] w fun e w' => e = .returned (.tuple #[pv v rh rl mn, .int .i64 0]) ∧ Below w.heap.size w w' := by
  have op := (fitsB_parts (okP_parts kp).1)
  have oq := (fitsB_parts (okP_parts kq).1)
  obtain ⟨K, hK⟩ : ∃ K : Int, K = ((k : Nat) : Int) := ⟨_, rfl⟩
  have hf : fitsB v n mn = true := by
    simp only [fitsB, op.1, Bool.true_and, Bool.and_eq_true, decide_eq_true_eq]
    have := op.2; have := oq.2
    omega
  have CO : Hid (∀ w', Calls Tryz.prog 60 #[av v ph pl, .int .i64 mn] w' fun e w1 => e = .returned (.tuple #[pv v rh rl mn, .int .i64 0]) ∧ Below w'.heap.size w' w1) := fun w' => rof_ok hp hf hr w'
  have C1 : Hid (∀ w', Calls Tryz.prog 13 #[pv v ph pl b] w' fun e w1 => e = .returned (.bool true) ∧ Below w'.heap.size w' w1) := fun w' => kp ▸ rpright_c hp w'
  have C2 : Hid (∀ w', Calls Tryz.prog 13 #[pv v qh ql c] w' fun e w1 => e = .returned (.bool true) ∧ Below w'.heap.size w' w1) := fun w' => kq ▸ rpright_c hq w'
  have D1 : Hid (∀ w', _) := fun w' => row_g hW hp w'
  have D2 : Hid (∀ w', _) := fun w' => row_g hW hq w'
  have AG : Hid (∀ (x y c d : Nat) (w' : World), Rw w' x W (fun i => bitN n (W - 1 - i)) → Rw w' y W (fun i => bitN m (W - 1 - i)) → Calls Tryz.prog 58 #[.slice (some ⟨x, 0, none⟩) W c, .slice (some ⟨y, 0, none⟩) W d] w' fun e w1 => e = .returned (.int .i64 K) ∧ Below w'.heap.size w' w1) := fun x y c d w' hx hy => by
    refine (alike_g hW x y c d _ _ w' hx hy).mono ?_
    rintro e w1 ⟨j, rfl, hj, hb⟩
    rw [hK, hA.uniq hj]
    exact ⟨rfl, hb⟩
  rw [← hK] at hmn
  have hmnH : Hid (mn = min (min b c) K) := hmn
  have R := CK.start w v ph pl b v qh ql c
  clear hp hq kp kq hW hA hmn hr op oq hK hf
  have F := R.1.1
  go_enter Tryz.func23, Tryz.ntmps23
  go_wp2_with fail
  refine (C1.out _).mono ?_
  rintro e w1 ⟨rfl, hb1⟩
  replace R := R.below hb1
  replace F := R.1.1
  clear C1 hb1
  go_wp2_with fail
  refine (C2.out _).mono ?_
  rintro e w2 ⟨rfl, hb2⟩
  replace R := R.below hb2
  replace F := R.1.1
  clear C2 hb2
  go_upto_region 3 with fail
  have S0 := R.1
  clear F
  refine wp_region_held_drew (S := (PP w.heap.size (w.heap.size + 1) v ph pl b v qh ql c)) (by kernel_rfl) ?hS100 (fun hHeld => ?rest100)
  case hS100 => (first | with_reducible exact S0.drew | with_reducible exact hHeld.below hb3 | with_reducible exact hHeld.below hb4 | with_reducible exact hHeld.below hb5)
  refine wpAnyH_take (i := 0) (oi := _) (v := ?v101) (List.getElem?_toArray.trans rfl) (by kernel_rfl) (by kernel_rfl) (by kernel_rfl) (fun _ _ _ h => h) (Or.inl ⟨by rfl, ?hy101⟩) (by assumption) ?rest101
  case hy101 => (intro wq hSw; (try simp only [Two, PP] at hSw); go_simp; try with_reducible rfl)
  try simp only [Act.put, List.setIfInBounds_toArray, List.set_cons_zero, List.set_cons_succ]
  refine wpAnyH_take (i := 1) (oi := _) (v := ?v102) (List.getElem?_toArray.trans rfl) (by kernel_rfl) (by kernel_rfl) (by kernel_rfl) (fun _ _ _ h => h) (Or.inl ⟨by rfl, ?hy102⟩) (by assumption) ?rest102
  case hy102 => (intro wq hSw; (try simp only [Two, PP] at hSw); go_simp; try with_reducible rfl)
  try simp only [Act.put, List.setIfInBounds_toArray, List.set_cons_zero, List.set_cons_succ]
  refine wpAnyH_take (i := 3) (oi := _) (v := ?v103) (List.getElem?_toArray.trans rfl) (by kernel_rfl) (by kernel_rfl) (by kernel_rfl) (fun _ _ _ h => h) (Or.inl ⟨by rfl, ?hy103⟩) (by assumption) ?rest103
  case hy103 => (intro wq hSw; (try simp only [Two, PP] at hSw); go_simp; try with_reducible rfl)
  try simp only [Act.put, List.setIfInBounds_toArray, List.set_cons_zero, List.set_cons_succ]
  refine wpAnyH_take (i := 4) (oi := _) (v := ?v104) (List.getElem?_toArray.trans rfl) (by kernel_rfl) (by kernel_rfl) (by kernel_rfl) (fun _ _ _ h => h) (Or.inl ⟨by rfl, ?hy104⟩) (by assumption) ?rest104
  case hy104 => (intro wq hSw; (try simp only [Two, PP] at hSw); go_simp; try with_reducible rfl)
  try simp only [Act.put, List.setIfInBounds_toArray, List.set_cons_zero, List.set_cons_succ]
  refine wpAnyH_ready (rs := [2]) (by kernel_rfl) (by simp) ?rdy105
  refine AllReadyH.cons (List.getElem?_toArray.trans rfl) (fun K hK => ?stp105) AllReadyH.nil
  go_simp
  go_wp2_with fail
  (refine (D1.out _).mono ?_; rintro e w3 ⟨g1, cap1, rfl, rw1, hb3⟩; have R3 := R.via hb3 rfl rfl rfl rfl)
  go_wp2_with fail
  refine hK.out _ _ ?hSn105 (fun hHeld2 => ?rest105)
  case hSn105 => (first | with_reducible exact S0.drew | with_reducible exact hHeld.below hb3 | with_reducible exact hHeld.below hb4 | with_reducible exact hHeld.below hb5)
  clear hK K hHeld
  have hHeld := hHeld2
  clear hHeld2
  try simp only [Act.put, List.setIfInBounds_toArray, List.set_cons_zero, List.set_cons_succ]
  refine wpAnyH_ready (rs := [5]) (by kernel_rfl) (by simp) ?rdy106
  refine AllReadyH.cons (List.getElem?_toArray.trans rfl) (fun K hK => ?stp106) AllReadyH.nil
  go_simp
  go_wp2_with fail
  (refine (D2.out _).mono ?_; rintro e w4 ⟨g2, cap2, rfl, rw2, hb4⟩; have R4 := R3.via hb4 rfl rfl rfl rfl)
  go_wp2_with fail
  refine hK.out _ _ ?hSn106 (fun hHeld2 => ?rest106)
  case hSn106 => (first | with_reducible exact S0.drew | with_reducible exact hHeld.below hb3 | with_reducible exact hHeld.below hb4 | with_reducible exact hHeld.below hb5)
  clear hK K hHeld
  have hHeld := hHeld2
  clear hHeld2
  try simp only [Act.put, List.setIfInBounds_toArray, List.set_cons_zero, List.set_cons_succ]
  refine wpAnyH_ready (rs := [6]) (by kernel_rfl) (by simp) ?rdy107
  refine AllReadyH.cons (List.getElem?_toArray.trans rfl) (fun K hK => ?stp107) AllReadyH.nil
  go_simp
  go_wp2_with fail
  (refine (AG.out g1 g2 cap1 cap2 _ (rw1.below hb4) rw2).mono ?_; rintro e w5 ⟨rfl, hb5⟩; have R5 := R4.via hb5 rfl rfl rfl rfl; clear rw1 rw2)
  go_wp2_with fail
  refine hK.out _ _ ?hSn107 (fun hHeld2 => ?rest107)
  case hSn107 => (first | with_reducible exact S0.drew | with_reducible exact hHeld.below hb3 | with_reducible exact hHeld.below hb4 | with_reducible exact hHeld.below hb5)
  clear hK K hHeld
  have hHeld := hHeld2
  clear hHeld2
  try simp only [Act.put, List.setIfInBounds_toArray, List.set_cons_zero, List.set_cons_succ]
  refine wpAnyH_take (i := 7) (oi := _) (v := ?v108) (List.getElem?_toArray.trans rfl) (by kernel_rfl) (by kernel_rfl) (by kernel_rfl) (fun _ _ _ h => h) (Or.inl ⟨by rfl, ?hy108⟩) (by assumption) ?rest108
  case hy108 => (intro wq hSw; (try simp only [Two, PP] at hSw); go_simp; try with_reducible rfl)
  try simp only [Act.put, List.setIfInBounds_toArray, List.set_cons_zero, List.set_cons_succ]
  refine wpAnyH_done (by kernel_rfl) ?fin100 _
  clear R S0 R3 R4 hHeld hb3 hb4 hb5 D1 D2 AG
  have F := R5.1.1
  by_cases h1 : b < K
  · by_cases h2 : c < b
    · have h1' : decide (b < K) = true := decide_eq_true h1
      have h2' : decide (c < b) = true := decide_eq_true h2
      obtain rfl : mn = c := by have := hmnH.out; omega
      clear hmnH
      go_wp2_with fail
      refine (CO.out _).mono ?_
      rintro e w6 ⟨rfl, hb6⟩
      have R6 := R5.below hb6
      obtain ⟨r0, r1, r2, r3, r4, r5, r6, r7, r8⟩ := R6.2.1.four
      have B6 := R6.2.2
      clear CO hb6 F R5 R6
      go_wp2
      refine bodyPost_ret (v := .tuple #[pv v rh rl _, .int .i64 0]) (by simp [results, Tryz.results23, go_sem, World.cell?_setCell_same', World.cell?_setCell_other, *]) rfl ⟨rfl, by repeat (first | with_reducible exact Below.refl _ _ | with_reducible refine Below.drew ?_ | with_reducible refine Below.alloc ?_ (by first | omega | (simp <;> omega)) _ | with_reducible refine Below.setCell ?_ (by first | omega | (simp <;> omega)) _ | with_reducible refine Below.trans ?_ (Below.mono B6 (by first | omega | (simp <;> omega))))⟩
    · have h1' : decide (b < K) = true := decide_eq_true h1
      have h2' : decide (c < b) = false := decide_eq_false h2
      obtain rfl : mn = b := by have := hmnH.out; omega
      clear hmnH
      go_wp2_with fail
      refine (CO.out _).mono ?_
      rintro e w6 ⟨rfl, hb6⟩
      have R6 := R5.below hb6
      obtain ⟨r0, r1, r2, r3, r4, r5, r6, r7, r8⟩ := R6.2.1.four
      have B6 := R6.2.2
      clear CO hb6 F R5 R6
      go_wp2
      refine bodyPost_ret (v := .tuple #[pv v rh rl _, .int .i64 0]) (by simp [results, Tryz.results23, go_sem, World.cell?_setCell_same', World.cell?_setCell_other, *]) rfl ⟨rfl, by repeat (first | with_reducible exact Below.refl _ _ | with_reducible refine Below.drew ?_ | with_reducible refine Below.alloc ?_ (by first | omega | (simp <;> omega)) _ | with_reducible refine Below.setCell ?_ (by first | omega | (simp <;> omega)) _ | with_reducible refine Below.trans ?_ (Below.mono B6 (by first | omega | (simp <;> omega))))⟩
  · by_cases h2 : c < K
    · have h1' : decide (b < K) = false := decide_eq_false h1
      have h2' : decide (c < K) = true := decide_eq_true h2
      obtain rfl : mn = c := by have := hmnH.out; omega
      clear hmnH
      go_wp2_with fail
      refine (CO.out _).mono ?_
      rintro e w6 ⟨rfl, hb6⟩
      have R6 := R5.below hb6
      obtain ⟨r0, r1, r2, r3, r4, r5, r6, r7, r8⟩ := R6.2.1.four
      have B6 := R6.2.2
      clear CO hb6 F R5 R6
      go_wp2
      refine bodyPost_ret (v := .tuple #[pv v rh rl _, .int .i64 0]) (by simp [results, Tryz.results23, go_sem, World.cell?_setCell_same', World.cell?_setCell_other, *]) rfl ⟨rfl, by repeat (first | with_reducible exact Below.refl _ _ | with_reducible refine Below.drew ?_ | with_reducible refine Below.alloc ?_ (by first | omega | (simp <;> omega)) _ | with_reducible refine Below.setCell ?_ (by first | omega | (simp <;> omega)) _ | with_reducible refine Below.trans ?_ (Below.mono B6 (by first | omega | (simp <;> omega))))⟩
    · have h1' : decide (b < K) = false := decide_eq_false h1
      have h2' : decide (c < K) = false := decide_eq_false h2
      obtain rfl : mn = K := by have := hmnH.out; omega
      clear hmnH
      go_wp2_with fail
      refine (CO.out _).mono ?_
      rintro e w6 ⟨rfl, hb6⟩
      have R6 := R5.below hb6
      obtain ⟨r0, r1, r2, r3, r4, r5, r6, r7, r8⟩ := R6.2.1.four
      have B6 := R6.2.2
      clear CO hb6 F R5 R6
      go_wp2
      refine bodyPost_ret (v := .tuple #[pv v rh rl _, .int .i64 0]) (by simp [results, Tryz.results23, go_sem, World.cell?_setCell_same', World.cell?_setCell_other, *]) rfl ⟨rfl, by repeat (first | with_reducible exact Below.refl _ _ | with_reducible refine Below.drew ?_ | with_reducible refine Below.alloc ?_ (by first | omega | (simp <;> omega)) _ | with_reducible refine Below.setCell ?_ (by first | omega | (simp <;> omega)) _ | with_reducible refine Below.trans ?_ (Below.mono B6 (by first | omega | (simp <;> omega))))⟩
end Go.Proofs.YtmhnfgfdggjdhaaGreatDoor

/-
  The walk of CarveParts, where there are such blocks.
-/
import Derived.Test.YtmhnfgfdggjdhaaGreatDoorCParts
namespace Go.Proofs.YtmhnfgfdggjdhaaGreatDoor
open Go.ChangeShapes Go.WideShapes Go.ChangeAt Go.RowKit
set_option linter.unusedVariables false
set_option linter.unusedSimpArgs false

set_option maxRecDepth 100000 in
set_option maxHeartbeats 3200000 in
theorem parts_cut {v s : Bool} {h l b k ih il jh jl ah al : Int} {n i j a : Nat} (hp : IsNum h l n) (hi : IsNum ih il i) (hj : IsNum jh jl j) (ha : IsNum ah al a) (hc : cutB v n b k = true) (w : World) (hL : LW w)
    (aw : ∀ w, LW w → Calls Tryz.prog 29 #[] w fun e w' => e = .returned (.bool true) ∧ Below w.heap.size w w') :
    Calls Tryz.prog 8 #[pv v h l b, .int .i64 k, nv ih il, nv jh jl, av s ah al] w fun e w' => e = .returned (.bool true) ∧ Below w.heap.size w w' := by
  have hz := hL.sz
  have K := parts_start w v h l b ih il jh jl s ah al
  have AW : Hid (Calls Tryz.prog 29 #[] _ _) := aw _ (hL.of K.bel hz)
  have blk (q : Nat) (qh ql : Int) (hq : IsNum qh ql q) : ∃ (xv : Bool) (xh xl xb ex : Int), Hid (∀ w', Calls Tryz.prog 32 #[pv v h l b, .int .i64 k, nv qh ql] w' fun e w1 => e = .returned (.tuple #[pv xv xh xl xb, .int .i64 ex]) ∧ Below w'.heap.size w' w1) ∧ ((ex = 0 ∧ v = xv ∧ k = xb ∧ Hid (q < 2 ^ (k - b).toNat ∧ IsNum xh xl (blkN v n k q))) ∨ ¬ ex = 0) := by
    by_cases c : q < 2 ^ (k - b).toNat
    · obtain ⟨xh, xl, hx⟩ := IsNum.ex (blk_ok hc hp.lt c).2
      exact ⟨v, xh, xl, k, 0, fun w' => block_ok hp hq hc c hx w', Or.inl ⟨rfl, rfl, rfl, c, hx⟩⟩
    · exact ⟨false, 0, 0, 0, 12, fun w' => block_range hp hq hc c w', Or.inr (by decide)⟩
  obtain ⟨xv, xh, xl, xb, ex, X1, hx⟩ := blk i ih il hi
  obtain ⟨yv, yh, yl, yb, ey, Y1, hy⟩ := blk j jh jl hj
  have CU : Hid (∀ w', Calls Tryz.prog 41 #[pv v h l b, .int .i64 k] w' fun e w1 => e = .returned (.bool true) ∧ Below w'.heap.size w' w1) := fun w' => hc ▸ rcuts_c hp w'
  have HH : Hid (IsNum h l n ∧ IsNum ih il i ∧ IsNum jh jl j ∧ IsNum ah al a ∧ cutB v n b k = true) := ⟨hp, hi, hj, ha, hc⟩
  have HX : Hid ((ex = 0 ∧ v = xv ∧ k = xb ∧ Hid (i < 2 ^ (k - b).toNat ∧ IsNum xh xl (blkN v n k i))) ∨ ¬ ex = 0) := hx
  have HY : Hid ((ey = 0 ∧ v = yv ∧ k = yb ∧ Hid (j < 2 ^ (k - b).toNat ∧ IsNum yh yl (blkN v n k j))) ∨ ¬ ey = 0) := hy
  clear blk hp hi hj ha hc hL aw hx hy
  go_enter Tryz.func8, Tryz.ntmps8
  go_wp2_with fail
  refine AW.out.mono ?_
  rintro e w1 ⟨rfl, hb⟩
  replace K := K.below hb
  have F := K.1
  simp only [Facts, CellsAt] at F
  clear hb AW
  go_wp2_with fail
  refine (X1.out _).mono ?_
  rintro e w2 ⟨rfl, hb⟩
  replace K := (K.below hb).push (b := w2.heap.size) (cs := [.bool xv, .int .u64 xh, .int .u64 xl, .int .i64 xb]) (t := 28) rfl
  replace F := K.1
  simp only [Facts, CellsAt] at F
  clear hb X1
  go_wp2_with fail
  refine (Y1.out _).mono ?_
  rintro e w3 ⟨rfl, hb⟩
  replace K := (K.below hb).push (b := w3.heap.size) (cs := [.bool yv, .int .u64 yh, .int .u64 yl, .int .i64 yb]) (t := 28) rfl
  clear hb Y1 F
  go_upto_region 5 with fail
  go_cut [40] (fun p wc => ∃ t : Bool, p = .bool t ∧ Hid (t = true → ex = 0 ∧ ey = 0) ∧ Kn w [(w3.heap.size, [.bool yv, .int .u64 yh, .int .u64 yl, .int .i64 yb], 28), (w2.heap.size, [.bool xv, .int .u64 xh, .int .u64 xl, .int .i64 xb], 28), (w.heap.size + 1 + 1 + 1, [.bool s, .int .u64 ah, .int .u64 al], 26), (w.heap.size + 1 + 1, [.int .u64 jh, .int .u64 jl], 24), (w.heap.size + 1, [.int .u64 ih, .int .u64 il], 24), (w.heap.size, [.bool v, .int .u64 h, .int .u64 l, .int .i64 b], 28)] wc)
  case first =>
    clear HX HY HH CU
    by_cases c1 : ex = 0
    · by_cases c2 : ey = 0
      · have J : Hid (ex = 0 ∧ ey = 0) := ⟨c1, c2⟩
        subst c1 c2
        go_wp2_with fail
        go_meet
        case rel => exact ⟨true, by first | rfl | (simp; done) | simp [*], fun _ => J.out, K⟩
      · subst c1
        go_wp2_with fail
        go_meet
        case rel => exact ⟨false, by first | rfl | (simp; done) | simp [*], fun q => (Bool.noConfusion q), K⟩
    · go_wp2_with fail
      go_meet
      case rel => exact ⟨false, by first | rfl | (simp; done) | simp [*], fun q => (Bool.noConfusion q), K⟩
  case rest =>
    obtain ⟨t, rfl, HT, K1⟩ := hcut
    clear K
    have K := K1
    clear K1
    go_upto_if 40 with fail
    go_cut [12, 14] (fun q r wc => Kn w [(w.heap.size + 1 + 1 + 1, [.bool s, .int .u64 ah, .int .u64 al], 26), (w.heap.size + 1 + 1, [.int .u64 jh, .int .u64 jl], 24), (w.heap.size + 1, [.int .u64 ih, .int .u64 il], 24), (w.heap.size, [.bool v, .int .u64 h, .int .u64 l, .int .i64 b], 28)] wc)
    case first =>
      clear CU
      cases t
      rotate_left
      · obtain ⟨x0, y0⟩ := HT.out rfl
        obtain ⟨-, rfl, rfl, hx⟩ : ex = 0 ∧ v = xv ∧ k = xb ∧ Hid (i < 2 ^ (k - b).toNat ∧ IsNum xh xl (blkN v n k i)) := HX.out.resolve_right (fun q => q x0)
        obtain ⟨-, rfl, rfl, hy⟩ : ey = 0 ∧ v = yv ∧ k = yb ∧ Hid (j < 2 ^ (k - b).toNat ∧ IsNum yh yl (blkN v n k j)) := HY.out.resolve_right (fun q => q y0)
        · clear x0 y0 HT
          obtain ⟨hp, hi, hj, ha, hc⟩ := HH.out
          obtain ⟨ci, nx⟩ := hx.out
          obtain ⟨cj, ny⟩ := hy.out
          obtain ⟨m, hm⟩ : ∃ m : Int, m = cmpI (i : Int) (j : Int) := ⟨_, rfl⟩
          have PC : Hid (∀ w', Calls Tryz.prog 21 #[pv v xh xl k, pv v yh yl k] w' fun e w1 => e = .returned (.int .i64 m) ∧ Below w'.heap.size w' w1) := fun w' => pcmp_same nx ny (blk_ok hc hp.lt ci).1 (blk_ok hc hp.lt cj).1 (by rw [hm, blk_cmp]) w'
          have NC : Hid (∀ w', Calls Tryz.prog 40 #[nv ih il, nv jh jl] w' fun e w1 => e = .returned (.int .i64 m) ∧ Below w'.heap.size w' w1) := fun w' => num_cmp hi hj hm w'
          have WI : Hid (∀ w', Calls Tryz.prog 24 #[pv v xh xl k, pv v h l b] w' fun e w1 => e = .returned (.bool true) ∧ Below w'.heap.size w' w1) := fun w' => blk_within hc hp.lt ci ▸ within_c nx hp w'
          have ov := blk_over hc hp.lt ci cj
          by_cases eij : i = j
          · have OV : Hid (∀ w', Calls Tryz.prog 20 #[pv v xh xl k, pv v yh yl k] w' fun e w1 => e = .returned (.bool true) ∧ Below w'.heap.size w' w1) := fun w' => (ov.trans (decide_eq_true eij)) ▸ over_c nx ny w'
            obtain ⟨rfl, rfl⟩ := (hi.inj hj).1 eij
            clear hp hi hj ha hc ci nx cj ny hx hy HX HY HH hm ov eij
            go_wp2_with fail
            refine wp_region_held_drew (S := (Kn w [(w3.heap.size, [.bool v, .int .u64 yh, .int .u64 yl, .int .i64 k], 28), (w2.heap.size, [.bool v, .int .u64 xh, .int .u64 xl, .int .i64 k], 28), (w.heap.size + 1 + 1 + 1, [.bool s, .int .u64 ah, .int .u64 al], 26), (w.heap.size + 1 + 1, [.int .u64 ih, .int .u64 il], 24), (w.heap.size + 1, [.int .u64 ih, .int .u64 il], 24), (w.heap.size, [.bool v, .int .u64 h, .int .u64 l, .int .i64 b], 28)])) (by kernel_rfl) ?hS100 (fun hHeld => ?rest100)
            case hS100 => (first | with_reducible exact K.drew | with_reducible exact hHeld.below hb6 | with_reducible exact hHeld.below hb7 | with_reducible exact hHeld.below hb8 | with_reducible exact hHeld.below hb9)
            refine wpAnyH_take (i := 0) (oi := _) (v := ?v101) (List.getElem?_toArray.trans rfl) (by kernel_rfl) (by kernel_rfl) (by kernel_rfl) (fun _ _ _ h => h) (Or.inl ⟨by rfl, ?hy101⟩) (by assumption) ?rest101
            case hy101 => (intro wq hSw; (try simp only [Two, Kn, Facts, CellsAt] at hSw); go_simp; try with_reducible rfl)
            try simp only [Act.put, List.setIfInBounds_toArray, List.set_cons_zero, List.set_cons_succ]
            refine wpAnyH_take (i := 1) (oi := _) (v := ?v102) (List.getElem?_toArray.trans rfl) (by kernel_rfl) (by kernel_rfl) (by kernel_rfl) (fun _ _ _ h => h) (Or.inl ⟨by rfl, ?hy102⟩) (by assumption) ?rest102
            case hy102 => (intro wq hSw; (try simp only [Two, Kn, Facts, CellsAt] at hSw); go_simp; try with_reducible rfl)
            try simp only [Act.put, List.setIfInBounds_toArray, List.set_cons_zero, List.set_cons_succ]
            refine wpAnyH_take (i := 3) (oi := _) (v := ?v103) (List.getElem?_toArray.trans rfl) (by kernel_rfl) (by kernel_rfl) (by kernel_rfl) (fun _ _ _ h => h) (Or.inl ⟨by rfl, ?hy103⟩) (by assumption) ?rest103
            case hy103 => (intro wq hSw; (try simp only [Two, Kn, Facts, CellsAt] at hSw); go_simp; try with_reducible rfl)
            try simp only [Act.put, List.setIfInBounds_toArray, List.set_cons_zero, List.set_cons_succ]
            refine wpAnyH_take (i := 4) (oi := _) (v := ?v104) (List.getElem?_toArray.trans rfl) (by kernel_rfl) (by kernel_rfl) (by kernel_rfl) (fun _ _ _ h => h) (Or.inl ⟨by rfl, ?hy104⟩) (by assumption) ?rest104
            case hy104 => (intro wq hSw; (try simp only [Two, Kn, Facts, CellsAt] at hSw); go_simp; try with_reducible rfl)
            try simp only [Act.put, List.setIfInBounds_toArray, List.set_cons_zero, List.set_cons_succ]
            refine wpAnyH_take (i := 5) (oi := _) (v := (Value.bool true)) (List.getElem?_toArray.trans rfl) (by kernel_rfl) (by kernel_rfl) (by kernel_rfl) (fun _ _ _ h => h) (Or.inl ⟨by rfl, ?hy105⟩) (by assumption) ?rest105
            case hy105 => (intro wq hSw; (try simp only [Two, Kn, Facts, CellsAt] at hSw); go_simp; (all_goals (first | rfl | simp)))
            try simp only [Act.put, List.setIfInBounds_toArray, List.set_cons_zero, List.set_cons_succ]
            refine wpAnyH_ready (rs := [2]) (by kernel_rfl) (by simp) ?rdy106
            refine AllReadyH.cons (List.getElem?_toArray.trans rfl) (fun K hK => ?stp106) AllReadyH.nil
            go_simp
            go_wp2_with fail
            (refine (OV.out _).mono ?_; rintro e w6 ⟨rfl, hb6⟩)
            go_wp2_with fail
            refine hK.out _ _ ?hSn106 (fun hHeld2 => ?rest106)
            case hSn106 => (first | with_reducible exact K.drew | with_reducible exact hHeld.below hb6 | with_reducible exact hHeld.below hb7 | with_reducible exact hHeld.below hb8 | with_reducible exact hHeld.below hb9)
            clear hK K hHeld
            have hHeld := hHeld2
            clear hHeld2
            try simp only [Act.put, List.setIfInBounds_toArray, List.set_cons_zero, List.set_cons_succ]
            refine wpAnyH_take (i := 6) (oi := _) (v := ?v107) (List.getElem?_toArray.trans rfl) (by kernel_rfl) (by kernel_rfl) (by kernel_rfl) (fun _ _ _ h => h) (Or.inl ⟨by rfl, ?hy107⟩) (by assumption) ?rest107
            case hy107 => (intro wq hSw; (try simp only [Two, Kn, Facts, CellsAt] at hSw); go_simp; try with_reducible rfl)
            try simp only [Act.put, List.setIfInBounds_toArray, List.set_cons_zero, List.set_cons_succ]
            refine wpAnyH_take (i := 7) (oi := _) (v := ?v108) (List.getElem?_toArray.trans rfl) (by kernel_rfl) (by kernel_rfl) (by kernel_rfl) (fun _ _ _ h => h) (Or.inl ⟨by rfl, ?hy108⟩) (by assumption) ?rest108
            case hy108 => (intro wq hSw; (try simp only [Two, Kn, Facts, CellsAt] at hSw); go_simp; try with_reducible rfl)
            try simp only [Act.put, List.setIfInBounds_toArray, List.set_cons_zero, List.set_cons_succ]
            refine wpAnyH_take (i := 8) (oi := _) (v := ?v109) (List.getElem?_toArray.trans rfl) (by kernel_rfl) (by kernel_rfl) (by kernel_rfl) (fun _ _ _ h => h) (Or.inl ⟨by rfl, ?hy109⟩) (by assumption) ?rest109
            case hy109 => (intro wq hSw; (try simp only [Two, Kn, Facts, CellsAt] at hSw); go_simp; try with_reducible rfl)
            try simp only [Act.put, List.setIfInBounds_toArray, List.set_cons_zero, List.set_cons_succ]
            refine wpAnyH_take (i := 9) (oi := _) (v := ?v110) (List.getElem?_toArray.trans rfl) (by kernel_rfl) (by kernel_rfl) (by kernel_rfl) (fun _ _ _ h => h) (Or.inl ⟨by rfl, ?hy110⟩) (by assumption) ?rest110
            case hy110 => (intro wq hSw; (try simp only [Two, Kn, Facts, CellsAt] at hSw); go_simp; try with_reducible rfl)
            try simp only [Act.put, List.setIfInBounds_toArray, List.set_cons_zero, List.set_cons_succ]
            refine wpAnyH_take (i := 11) (oi := _) (v := ?v111) (List.getElem?_toArray.trans rfl) (by kernel_rfl) (by kernel_rfl) (by kernel_rfl) (fun _ _ _ h => h) (Or.inl ⟨by rfl, ?hy111⟩) (by assumption) ?rest111
            case hy111 => (intro wq hSw; (try simp only [Two, Kn, Facts, CellsAt] at hSw); go_simp; try with_reducible rfl)
            try simp only [Act.put, List.setIfInBounds_toArray, List.set_cons_zero, List.set_cons_succ]
            refine wpAnyH_take (i := 12) (oi := _) (v := ?v112) (List.getElem?_toArray.trans rfl) (by kernel_rfl) (by kernel_rfl) (by kernel_rfl) (fun _ _ _ h => h) (Or.inl ⟨by rfl, ?hy112⟩) (by assumption) ?rest112
            case hy112 => (intro wq hSw; (try simp only [Two, Kn, Facts, CellsAt] at hSw); go_simp; try with_reducible rfl)
            try simp only [Act.put, List.setIfInBounds_toArray, List.set_cons_zero, List.set_cons_succ]
            refine wpAnyH_ready (rs := [10]) (by kernel_rfl) (by simp) ?rdy113
            refine AllReadyH.cons (List.getElem?_toArray.trans rfl) (fun K hK => ?stp113) AllReadyH.nil
            go_simp
            go_wp2_with fail
            (refine (PC.out _).mono ?_; rintro e w7 ⟨rfl, hb7⟩)
            go_wp2_with fail
            refine hK.out _ _ ?hSn113 (fun hHeld2 => ?rest113)
            case hSn113 => (first | with_reducible exact K.drew | with_reducible exact hHeld.below hb6 | with_reducible exact hHeld.below hb7 | with_reducible exact hHeld.below hb8 | with_reducible exact hHeld.below hb9)
            clear hK K hHeld
            have hHeld := hHeld2
            clear hHeld2
            try simp only [Act.put, List.setIfInBounds_toArray, List.set_cons_zero, List.set_cons_succ]
            refine wpAnyH_ready (rs := [13]) (by kernel_rfl) (by simp) ?rdy114
            refine AllReadyH.cons (List.getElem?_toArray.trans rfl) (fun K hK => ?stp114) AllReadyH.nil
            go_simp
            go_wp2_with fail
            (refine (NC.out _).mono ?_; rintro e w8 ⟨rfl, hb8⟩)
            go_wp2_with fail
            refine hK.out _ _ ?hSn114 (fun hHeld2 => ?rest114)
            case hSn114 => (first | with_reducible exact K.drew | with_reducible exact hHeld.below hb6 | with_reducible exact hHeld.below hb7 | with_reducible exact hHeld.below hb8 | with_reducible exact hHeld.below hb9)
            clear hK K hHeld
            have hHeld := hHeld2
            clear hHeld2
            try simp only [Act.put, List.setIfInBounds_toArray, List.set_cons_zero, List.set_cons_succ]
            refine wpAnyH_take (i := 14) (oi := _) (v := (Value.bool false)) (List.getElem?_toArray.trans rfl) (by kernel_rfl) (by kernel_rfl) (by kernel_rfl) (fun _ _ _ h => h) (Or.inl ⟨by rfl, ?hy115⟩) (by assumption) ?rest115
            case hy115 => (intro wq hSw; (try simp only [Two, Kn, Facts, CellsAt] at hSw); go_simp; (all_goals (first | rfl | simp)))
            try simp only [Act.put, List.setIfInBounds_toArray, List.set_cons_zero, List.set_cons_succ]
            refine wpAnyH_take (i := 15) (oi := _) (v := ?v116) (List.getElem?_toArray.trans rfl) (by kernel_rfl) (by kernel_rfl) (by kernel_rfl) (fun _ _ _ h => h) (Or.inl ⟨by rfl, ?hy116⟩) (by assumption) ?rest116
            case hy116 => (intro wq hSw; (try simp only [Two, Kn, Facts, CellsAt] at hSw); go_simp; try with_reducible rfl)
            try simp only [Act.put, List.setIfInBounds_toArray, List.set_cons_zero, List.set_cons_succ]
            refine wpAnyH_take (i := 16) (oi := _) (v := ?v117) (List.getElem?_toArray.trans rfl) (by kernel_rfl) (by kernel_rfl) (by kernel_rfl) (fun _ _ _ h => h) (Or.inl ⟨by rfl, ?hy117⟩) (by assumption) ?rest117
            case hy117 => (intro wq hSw; (try simp only [Two, Kn, Facts, CellsAt] at hSw); go_simp; try with_reducible rfl)
            try simp only [Act.put, List.setIfInBounds_toArray, List.set_cons_zero, List.set_cons_succ]
            refine wpAnyH_take (i := 17) (oi := _) (v := ?v118) (List.getElem?_toArray.trans rfl) (by kernel_rfl) (by kernel_rfl) (by kernel_rfl) (fun _ _ _ h => h) (Or.inl ⟨by rfl, ?hy118⟩) (by assumption) ?rest118
            case hy118 => (intro wq hSw; (try simp only [Two, Kn, Facts, CellsAt] at hSw); go_simp; try with_reducible rfl)
            try simp only [Act.put, List.setIfInBounds_toArray, List.set_cons_zero, List.set_cons_succ]
            refine wpAnyH_take (i := 18) (oi := _) (v := ?v119) (List.getElem?_toArray.trans rfl) (by kernel_rfl) (by kernel_rfl) (by kernel_rfl) (fun _ _ _ h => h) (Or.inl ⟨by rfl, ?hy119⟩) (by assumption) ?rest119
            case hy119 => (intro wq hSw; (try simp only [Two, Kn, Facts, CellsAt] at hSw); go_simp; try with_reducible rfl)
            try simp only [Act.put, List.setIfInBounds_toArray, List.set_cons_zero, List.set_cons_succ]
            refine wpAnyH_ready (rs := [19]) (by kernel_rfl) (by simp) ?rdy120
            refine AllReadyH.cons (List.getElem?_toArray.trans rfl) (fun K hK => ?stp120) AllReadyH.nil
            go_simp
            go_wp2_with fail
            (refine (WI.out _).mono ?_; rintro e w9 ⟨rfl, hb9⟩)
            go_wp2_with fail
            refine hK.out _ _ ?hSn120 (fun hHeld2 => ?rest120)
            case hSn120 => (first | with_reducible exact K.drew | with_reducible exact hHeld.below hb6 | with_reducible exact hHeld.below hb7 | with_reducible exact hHeld.below hb8 | with_reducible exact hHeld.below hb9)
            clear hK K hHeld
            have hHeld := hHeld2
            clear hHeld2
            try simp only [Act.put, List.setIfInBounds_toArray, List.set_cons_zero, List.set_cons_succ]
            refine wpAnyH_take (i := 20) (oi := _) (v := ?v121) (List.getElem?_toArray.trans rfl) (by kernel_rfl) (by kernel_rfl) (by kernel_rfl) (fun _ _ _ h => h) (Or.inl ⟨by rfl, ?hy121⟩) (by assumption) ?rest121
            case hy121 => (intro wq hSw; (try simp only [Two, Kn, Facts, CellsAt] at hSw); go_simp; try with_reducible rfl)
            try simp only [Act.put, List.setIfInBounds_toArray, List.set_cons_zero, List.set_cons_succ]
            refine wpAnyH_take (i := 21) (oi := _) (v := ?v122) (List.getElem?_toArray.trans rfl) (by kernel_rfl) (by kernel_rfl) (by kernel_rfl) (fun _ _ _ h => h) (Or.inl ⟨by rfl, ?hy122⟩) (by assumption) ?rest122
            case hy122 => (intro wq hSw; (try simp only [Two, Kn, Facts, CellsAt] at hSw); go_simp; try with_reducible rfl)
            try simp only [Act.put, List.setIfInBounds_toArray, List.set_cons_zero, List.set_cons_succ]
            refine wpAnyH_done (by kernel_rfl) ?fin100 _
            go_wp2_with fail
            go_meet
            case rel => exact hHeld.tail.tail
          · have OV : Hid (∀ w', Calls Tryz.prog 20 #[pv v xh xl k, pv v yh yl k] w' fun e w1 => e = .returned (.bool false) ∧ Below w'.heap.size w' w1) := fun w' => (ov.trans (decide_eq_false eij)) ▸ over_c nx ny w'
            have nij : ¬ ih = jh ∨ (ih = jh ∧ ¬ il = jl) := by
              by_cases q : ih = jh
              · exact Or.inr ⟨q, fun r => eij ((hi.inj hj).2 ⟨q, r⟩)⟩
              · exact Or.inl q
            have NIJ : Hid (¬ ih = jh ∨ (ih = jh ∧ ¬ il = jl)) := nij
            clear hp hi hj ha hc ci nx cj ny hx hy HX HY HH hm ov eij nij
            go_wp2_with fail
            refine wp_region_held_drew (S := (Kn w [(w3.heap.size, [.bool v, .int .u64 yh, .int .u64 yl, .int .i64 k], 28), (w2.heap.size, [.bool v, .int .u64 xh, .int .u64 xl, .int .i64 k], 28), (w.heap.size + 1 + 1 + 1, [.bool s, .int .u64 ah, .int .u64 al], 26), (w.heap.size + 1 + 1, [.int .u64 jh, .int .u64 jl], 24), (w.heap.size + 1, [.int .u64 ih, .int .u64 il], 24), (w.heap.size, [.bool v, .int .u64 h, .int .u64 l, .int .i64 b], 28)])) (by kernel_rfl) ?hS200 (fun hHeld => ?rest200)
            case hS200 => (first | with_reducible exact K.drew | with_reducible exact hHeld.below hb6 | with_reducible exact hHeld.below hb7 | with_reducible exact hHeld.below hb8 | with_reducible exact hHeld.below hb9)
            refine wpAnyH_take (i := 0) (oi := _) (v := ?v201) (List.getElem?_toArray.trans rfl) (by kernel_rfl) (by kernel_rfl) (by kernel_rfl) (fun _ _ _ h => h) (Or.inl ⟨by rfl, ?hy201⟩) (by assumption) ?rest201
            case hy201 => (intro wq hSw; (try simp only [Two, Kn, Facts, CellsAt] at hSw); go_simp; try with_reducible rfl)
            try simp only [Act.put, List.setIfInBounds_toArray, List.set_cons_zero, List.set_cons_succ]
            refine wpAnyH_take (i := 1) (oi := _) (v := ?v202) (List.getElem?_toArray.trans rfl) (by kernel_rfl) (by kernel_rfl) (by kernel_rfl) (fun _ _ _ h => h) (Or.inl ⟨by rfl, ?hy202⟩) (by assumption) ?rest202
            case hy202 => (intro wq hSw; (try simp only [Two, Kn, Facts, CellsAt] at hSw); go_simp; try with_reducible rfl)
            try simp only [Act.put, List.setIfInBounds_toArray, List.set_cons_zero, List.set_cons_succ]
            refine wpAnyH_take (i := 3) (oi := _) (v := ?v203) (List.getElem?_toArray.trans rfl) (by kernel_rfl) (by kernel_rfl) (by kernel_rfl) (fun _ _ _ h => h) (Or.inl ⟨by rfl, ?hy203⟩) (by assumption) ?rest203
            case hy203 => (intro wq hSw; (try simp only [Two, Kn, Facts, CellsAt] at hSw); go_simp; try with_reducible rfl)
            try simp only [Act.put, List.setIfInBounds_toArray, List.set_cons_zero, List.set_cons_succ]
            refine wpAnyH_take (i := 4) (oi := _) (v := ?v204) (List.getElem?_toArray.trans rfl) (by kernel_rfl) (by kernel_rfl) (by kernel_rfl) (fun _ _ _ h => h) (Or.inl ⟨by rfl, ?hy204⟩) (by assumption) ?rest204
            case hy204 => (intro wq hSw; (try simp only [Two, Kn, Facts, CellsAt] at hSw); go_simp; try with_reducible rfl)
            try simp only [Act.put, List.setIfInBounds_toArray, List.set_cons_zero, List.set_cons_succ]
            refine wpAnyH_take (i := 5) (oi := _) (v := (Value.bool false)) (List.getElem?_toArray.trans rfl) (by kernel_rfl) (by kernel_rfl) (by kernel_rfl) (fun _ _ _ h => h) (Or.inl ⟨by rfl, ?hy205⟩) (by assumption) ?rest205
            case hy205 => (intro wq hSw; (try simp only [Two, Kn, Facts, CellsAt] at hSw); go_simp; (all_goals (rcases NIJ.out with q | ⟨q, r⟩ <;> simp [*])))
            try simp only [Act.put, List.setIfInBounds_toArray, List.set_cons_zero, List.set_cons_succ]
            refine wpAnyH_ready (rs := [2]) (by kernel_rfl) (by simp) ?rdy206
            refine AllReadyH.cons (List.getElem?_toArray.trans rfl) (fun K hK => ?stp206) AllReadyH.nil
            go_simp
            go_wp2_with fail
            (refine (OV.out _).mono ?_; rintro e w6 ⟨rfl, hb6⟩)
            go_wp2_with fail
            refine hK.out _ _ ?hSn206 (fun hHeld2 => ?rest206)
            case hSn206 => (first | with_reducible exact K.drew | with_reducible exact hHeld.below hb6 | with_reducible exact hHeld.below hb7 | with_reducible exact hHeld.below hb8 | with_reducible exact hHeld.below hb9)
            clear hK K hHeld
            have hHeld := hHeld2
            clear hHeld2
            try simp only [Act.put, List.setIfInBounds_toArray, List.set_cons_zero, List.set_cons_succ]
            refine wpAnyH_take (i := 6) (oi := _) (v := ?v207) (List.getElem?_toArray.trans rfl) (by kernel_rfl) (by kernel_rfl) (by kernel_rfl) (fun _ _ _ h => h) (Or.inl ⟨by rfl, ?hy207⟩) (by assumption) ?rest207
            case hy207 => (intro wq hSw; (try simp only [Two, Kn, Facts, CellsAt] at hSw); go_simp; try with_reducible rfl)
            try simp only [Act.put, List.setIfInBounds_toArray, List.set_cons_zero, List.set_cons_succ]
            refine wpAnyH_take (i := 7) (oi := _) (v := ?v208) (List.getElem?_toArray.trans rfl) (by kernel_rfl) (by kernel_rfl) (by kernel_rfl) (fun _ _ _ h => h) (Or.inl ⟨by rfl, ?hy208⟩) (by assumption) ?rest208
            case hy208 => (intro wq hSw; (try simp only [Two, Kn, Facts, CellsAt] at hSw); go_simp; try with_reducible rfl)
            try simp only [Act.put, List.setIfInBounds_toArray, List.set_cons_zero, List.set_cons_succ]
            refine wpAnyH_take (i := 8) (oi := _) (v := ?v209) (List.getElem?_toArray.trans rfl) (by kernel_rfl) (by kernel_rfl) (by kernel_rfl) (fun _ _ _ h => h) (Or.inl ⟨by rfl, ?hy209⟩) (by assumption) ?rest209
            case hy209 => (intro wq hSw; (try simp only [Two, Kn, Facts, CellsAt] at hSw); go_simp; try with_reducible rfl)
            try simp only [Act.put, List.setIfInBounds_toArray, List.set_cons_zero, List.set_cons_succ]
            refine wpAnyH_take (i := 9) (oi := _) (v := ?v210) (List.getElem?_toArray.trans rfl) (by kernel_rfl) (by kernel_rfl) (by kernel_rfl) (fun _ _ _ h => h) (Or.inl ⟨by rfl, ?hy210⟩) (by assumption) ?rest210
            case hy210 => (intro wq hSw; (try simp only [Two, Kn, Facts, CellsAt] at hSw); go_simp; try with_reducible rfl)
            try simp only [Act.put, List.setIfInBounds_toArray, List.set_cons_zero, List.set_cons_succ]
            refine wpAnyH_take (i := 11) (oi := _) (v := ?v211) (List.getElem?_toArray.trans rfl) (by kernel_rfl) (by kernel_rfl) (by kernel_rfl) (fun _ _ _ h => h) (Or.inl ⟨by rfl, ?hy211⟩) (by assumption) ?rest211
            case hy211 => (intro wq hSw; (try simp only [Two, Kn, Facts, CellsAt] at hSw); go_simp; try with_reducible rfl)
            try simp only [Act.put, List.setIfInBounds_toArray, List.set_cons_zero, List.set_cons_succ]
            refine wpAnyH_take (i := 12) (oi := _) (v := ?v212) (List.getElem?_toArray.trans rfl) (by kernel_rfl) (by kernel_rfl) (by kernel_rfl) (fun _ _ _ h => h) (Or.inl ⟨by rfl, ?hy212⟩) (by assumption) ?rest212
            case hy212 => (intro wq hSw; (try simp only [Two, Kn, Facts, CellsAt] at hSw); go_simp; try with_reducible rfl)
            try simp only [Act.put, List.setIfInBounds_toArray, List.set_cons_zero, List.set_cons_succ]
            refine wpAnyH_ready (rs := [10]) (by kernel_rfl) (by simp) ?rdy213
            refine AllReadyH.cons (List.getElem?_toArray.trans rfl) (fun K hK => ?stp213) AllReadyH.nil
            go_simp
            go_wp2_with fail
            (refine (PC.out _).mono ?_; rintro e w7 ⟨rfl, hb7⟩)
            go_wp2_with fail
            refine hK.out _ _ ?hSn213 (fun hHeld2 => ?rest213)
            case hSn213 => (first | with_reducible exact K.drew | with_reducible exact hHeld.below hb6 | with_reducible exact hHeld.below hb7 | with_reducible exact hHeld.below hb8 | with_reducible exact hHeld.below hb9)
            clear hK K hHeld
            have hHeld := hHeld2
            clear hHeld2
            try simp only [Act.put, List.setIfInBounds_toArray, List.set_cons_zero, List.set_cons_succ]
            refine wpAnyH_ready (rs := [13]) (by kernel_rfl) (by simp) ?rdy214
            refine AllReadyH.cons (List.getElem?_toArray.trans rfl) (fun K hK => ?stp214) AllReadyH.nil
            go_simp
            go_wp2_with fail
            (refine (NC.out _).mono ?_; rintro e w8 ⟨rfl, hb8⟩)
            go_wp2_with fail
            refine hK.out _ _ ?hSn214 (fun hHeld2 => ?rest214)
            case hSn214 => (first | with_reducible exact K.drew | with_reducible exact hHeld.below hb6 | with_reducible exact hHeld.below hb7 | with_reducible exact hHeld.below hb8 | with_reducible exact hHeld.below hb9)
            clear hK K hHeld
            have hHeld := hHeld2
            clear hHeld2
            try simp only [Act.put, List.setIfInBounds_toArray, List.set_cons_zero, List.set_cons_succ]
            refine wpAnyH_take (i := 14) (oi := _) (v := (Value.bool false)) (List.getElem?_toArray.trans rfl) (by kernel_rfl) (by kernel_rfl) (by kernel_rfl) (fun _ _ _ h => h) (Or.inl ⟨by rfl, ?hy215⟩) (by assumption) ?rest215
            case hy215 => (intro wq hSw; (try simp only [Two, Kn, Facts, CellsAt] at hSw); go_simp; (all_goals (first | rfl | simp)))
            try simp only [Act.put, List.setIfInBounds_toArray, List.set_cons_zero, List.set_cons_succ]
            refine wpAnyH_take (i := 15) (oi := _) (v := ?v216) (List.getElem?_toArray.trans rfl) (by kernel_rfl) (by kernel_rfl) (by kernel_rfl) (fun _ _ _ h => h) (Or.inl ⟨by rfl, ?hy216⟩) (by assumption) ?rest216
            case hy216 => (intro wq hSw; (try simp only [Two, Kn, Facts, CellsAt] at hSw); go_simp; try with_reducible rfl)
            try simp only [Act.put, List.setIfInBounds_toArray, List.set_cons_zero, List.set_cons_succ]
            refine wpAnyH_take (i := 16) (oi := _) (v := ?v217) (List.getElem?_toArray.trans rfl) (by kernel_rfl) (by kernel_rfl) (by kernel_rfl) (fun _ _ _ h => h) (Or.inl ⟨by rfl, ?hy217⟩) (by assumption) ?rest217
            case hy217 => (intro wq hSw; (try simp only [Two, Kn, Facts, CellsAt] at hSw); go_simp; try with_reducible rfl)
            try simp only [Act.put, List.setIfInBounds_toArray, List.set_cons_zero, List.set_cons_succ]
            refine wpAnyH_take (i := 17) (oi := _) (v := ?v218) (List.getElem?_toArray.trans rfl) (by kernel_rfl) (by kernel_rfl) (by kernel_rfl) (fun _ _ _ h => h) (Or.inl ⟨by rfl, ?hy218⟩) (by assumption) ?rest218
            case hy218 => (intro wq hSw; (try simp only [Two, Kn, Facts, CellsAt] at hSw); go_simp; try with_reducible rfl)
            try simp only [Act.put, List.setIfInBounds_toArray, List.set_cons_zero, List.set_cons_succ]
            refine wpAnyH_take (i := 18) (oi := _) (v := ?v219) (List.getElem?_toArray.trans rfl) (by kernel_rfl) (by kernel_rfl) (by kernel_rfl) (fun _ _ _ h => h) (Or.inl ⟨by rfl, ?hy219⟩) (by assumption) ?rest219
            case hy219 => (intro wq hSw; (try simp only [Two, Kn, Facts, CellsAt] at hSw); go_simp; try with_reducible rfl)
            try simp only [Act.put, List.setIfInBounds_toArray, List.set_cons_zero, List.set_cons_succ]
            refine wpAnyH_ready (rs := [19]) (by kernel_rfl) (by simp) ?rdy220
            refine AllReadyH.cons (List.getElem?_toArray.trans rfl) (fun K hK => ?stp220) AllReadyH.nil
            go_simp
            go_wp2_with fail
            (refine (WI.out _).mono ?_; rintro e w9 ⟨rfl, hb9⟩)
            go_wp2_with fail
            refine hK.out _ _ ?hSn220 (fun hHeld2 => ?rest220)
            case hSn220 => (first | with_reducible exact K.drew | with_reducible exact hHeld.below hb6 | with_reducible exact hHeld.below hb7 | with_reducible exact hHeld.below hb8 | with_reducible exact hHeld.below hb9)
            clear hK K hHeld
            have hHeld := hHeld2
            clear hHeld2
            try simp only [Act.put, List.setIfInBounds_toArray, List.set_cons_zero, List.set_cons_succ]
            refine wpAnyH_take (i := 20) (oi := _) (v := ?v221) (List.getElem?_toArray.trans rfl) (by kernel_rfl) (by kernel_rfl) (by kernel_rfl) (fun _ _ _ h => h) (Or.inl ⟨by rfl, ?hy221⟩) (by assumption) ?rest221
            case hy221 => (intro wq hSw; (try simp only [Two, Kn, Facts, CellsAt] at hSw); go_simp; try with_reducible rfl)
            try simp only [Act.put, List.setIfInBounds_toArray, List.set_cons_zero, List.set_cons_succ]
            refine wpAnyH_take (i := 21) (oi := _) (v := ?v222) (List.getElem?_toArray.trans rfl) (by kernel_rfl) (by kernel_rfl) (by kernel_rfl) (fun _ _ _ h => h) (Or.inl ⟨by rfl, ?hy222⟩) (by assumption) ?rest222
            case hy222 => (intro wq hSw; (try simp only [Two, Kn, Facts, CellsAt] at hSw); go_simp; try with_reducible rfl)
            try simp only [Act.put, List.setIfInBounds_toArray, List.set_cons_zero, List.set_cons_succ]
            refine wpAnyH_done (by kernel_rfl) ?fin200 _
            go_wp2_with fail
            go_meet
            case rel => exact hHeld.tail.tail
      · clear HX HY HH HT
        go_wp2_with fail
        go_meet
        case rel => exact K.tail.tail
    case rest =>
      clear K HX HY HT
      have K := hcut
      clear hcut
      have F := K.1
      simp only [Facts, CellsAt] at F
      obtain ⟨hp, hi, hj, ha, hc⟩ := HH.out
      cases kh : hasB v n b s a
      · have NU : Hid (∀ w', Calls Tryz.prog 38 #[pv v h l b, av s ah al] w' fun e w1 => e = .returned (.tuple #[nv 0 0, .int .i64 12]) ∧ Below w'.heap.size w' w1) := fun w' => number_range hp ha (cutB_parts hc).1 kh w'
        clear hp hi hj ha hc HH kh CU
        go_wp2_with fail
        refine (NU.out _).mono ?_
        rintro e w5 ⟨rfl, hb⟩
        have B := ((K.below hb).alloc (.cells #[.int .u64 0, .int .u64 0] 24)).bel
        clear hb NU K F
        go_wp2
        go_ret
        exact ⟨rfl, B⟩
      · obtain rfl := (has_parts kh).1
        obtain ⟨rh, rl, hr⟩ := IsNum.ex (n := a - n) (Nat.lt_of_le_of_lt (Nat.sub_le _ _) ha.lt)
        have NU : Hid (∀ w', Calls Tryz.prog 38 #[pv v h l b, av v ah al] w' fun e w1 => e = .returned (.tuple #[nv rh rl, .int .i64 0]) ∧ Below w'.heap.size w' w1) := fun w' => number_ok hp ha kh hr w'
        obtain ⟨c1, c2, c3, c4, c5⟩ := cutB_parts hc
        have hW2 := width_le v
        obtain ⟨W, hW⟩ : ∃ W, widthA v = W := ⟨_, rfl⟩
        have CW : Hid (∀ w', Calls Tryz.prog 19 #[av v ah al] w' fun e w1 => e = .returned (.int .i64 W) ∧ Below w'.heap.size w' w1) := fun w' => width_lit v W hW ah al w'
        have eb : (W - k).toNat = behindP v k := by unfold behindP; rw [hW]
        have ia := num_lt hc ((has_ends c1 hp.lt).1 kh).2
        obtain ⟨qh, ql, hq⟩ := IsNum.ex (n := numN v n k a) (Nat.lt_of_le_of_lt (Nat.div_le_self _ _) hr.lt)
        have CS : Hid (∀ w', Calls Tryz.prog 42 #[nv rh rl, .int .i64 (W - k)] w' fun e w1 => e = .returned (nv qh ql) ∧ Below w'.heap.size w' w1) := fun w' => shr_all hr (by omega) (by rw [eb]; exact hq) w'
        obtain ⟨zh, zl, hzn⟩ := IsNum.ex (blk_ok hc hp.lt ia).2
        have CB : Hid (∀ w', Calls Tryz.prog 32 #[pv v h l b, .int .i64 k, nv qh ql] w' fun e w1 => e = .returned (.tuple #[pv v zh zl k, .int .i64 0]) ∧ Below w'.heap.size w' w1) := fun w' => block_ok hp hq hc ia hzn w'
        have CHA : Hid (∀ w', Calls Tryz.prog 18 #[pv v zh zl k, av v ah al] w' fun e w1 => e = .returned (.bool true) ∧ Below w'.heap.size w' w1) := fun w' => blk_has hc hp.lt kh ▸ has_c hzn ha w'
        have hw1 : IntKind.i64.wrap (W - k) = W - k := by simp [IntKind.wrap, IntKind.bits, IntKind.signed]; omega
        clear hp hi hj ha hc HH kh hr c1 c2 c3 c4 c5 hW2 hW eb ia hq hzn
        go_wp2_with fail
        refine (NU.out _).mono ?_
        rintro e w5 ⟨rfl, hb⟩
        replace K := (K.below hb).push (b := w5.heap.size) (cs := [.int .u64 rh, .int .u64 rl]) (t := 24) rfl
        replace F := K.1
        simp only [Facts, CellsAt] at F
        clear hb NU
        go_wp2_with fail
        refine (CU.out _).mono ?_
        rintro e w0 ⟨rfl, hb⟩
        replace K := K.below hb
        have R0 := K
        have LT := R0.lts
        simp only [Lts] at LT
        have hs0 := R0.bel.size
        clear hb CU F K
        go_upto_region 11 with fail
        go_cut [17, 18] (fun p t wc => ∃ X : Nat, p = .pointer (some ⟨X, 0, none⟩) ∧ t = .int .i64 0 ∧ Blk wc X #[.bool v, .int .u64 zh, .int .u64 zl, .int .i64 k] 28 ∧ Kn w [(w5.heap.size, [.int .u64 rh, .int .u64 rl], 24), (w.heap.size + 1 + 1 + 1, [.bool v, .int .u64 ah, .int .u64 al], 26), (w.heap.size + 1 + 1, [.int .u64 jh, .int .u64 jl], 24), (w.heap.size + 1, [.int .u64 ih, .int .u64 il], 24), (w.heap.size, [.bool v, .int .u64 h, .int .u64 l, .int .i64 b], 28)] wc)
        case first =>
          refine wp_region_held_drew (S := (Kn w [(w5.heap.size, [.int .u64 rh, .int .u64 rl], 24), (w.heap.size + 1 + 1 + 1, [.bool v, .int .u64 ah, .int .u64 al], 26), (w.heap.size + 1 + 1, [.int .u64 jh, .int .u64 jl], 24), (w.heap.size + 1, [.int .u64 ih, .int .u64 il], 24), (w.heap.size, [.bool v, .int .u64 h, .int .u64 l, .int .i64 b], 28)])) (by kernel_rfl) ?hS5001 (fun hHeld => ?rest5001)
          case hS5001 => (first | with_reducible exact R0.drew | with_reducible exact (R0.alloc _).drew | with_reducible exact hHeld.below hb4 | with_reducible exact hHeld.below hb5 | with_reducible exact hHeld.below hb6 | with_reducible exact hHeld.alloc _ | with_reducible exact K6.alloc _ | with_reducible exact hHeld.far4 (by simp only [Off]; repeat' (first | exact trivial | refine And.intro ?_ ?_ | omega)) (by omega) _ _ _ _ | with_reducible exact K6.far4 (by simp only [Off]; repeat' (first | exact trivial | refine And.intro ?_ ?_ | omega)) (by omega) _ _ _ _ | with_reducible exact (K6.alloc _).far4 (by simp only [Off]; repeat' (first | exact trivial | refine And.intro ?_ ?_ | omega)) (by omega) _ _ _ _)
          refine wpAnyH_take (i := 0) (oi := _) (v := ?v5002) (List.getElem?_toArray.trans rfl) (by kernel_rfl) (by kernel_rfl) (by kernel_rfl) (fun _ _ _ h => h) (Or.inl ⟨by rfl, ?hy5002⟩) (by assumption) ?rest5002
          case hy5002 => (intro wq hSw; (try simp only [Two, Kn, Facts, CellsAt] at hSw); go_simp; try with_reducible rfl)
          try simp only [Act.put, List.setIfInBounds_toArray, List.set_cons_zero, List.set_cons_succ]
          refine wpAnyH_take (i := 1) (oi := _) (v := ?v5003) (List.getElem?_toArray.trans rfl) (by kernel_rfl) (by kernel_rfl) (by kernel_rfl) (fun _ _ _ h => h) (Or.inl ⟨by rfl, ?hy5003⟩) (by assumption) ?rest5003
          case hy5003 => (intro wq hSw; (try simp only [Two, Kn, Facts, CellsAt] at hSw); go_simp; try with_reducible rfl)
          try simp only [Act.put, List.setIfInBounds_toArray, List.set_cons_zero, List.set_cons_succ]
          refine wpAnyH_take (i := 2) (oi := _) (v := ?v5004) (List.getElem?_toArray.trans rfl) (by kernel_rfl) (by kernel_rfl) (by kernel_rfl) (fun _ _ _ h => h) (Or.inl ⟨by rfl, ?hy5004⟩) (by assumption) ?rest5004
          case hy5004 => (intro wq hSw; (try simp only [Two, Kn, Facts, CellsAt] at hSw); go_simp; try with_reducible rfl)
          try simp only [Act.put, List.setIfInBounds_toArray, List.set_cons_zero, List.set_cons_succ]
          refine wpAnyH_take (i := 3) (oi := _) (v := ?v5005) (List.getElem?_toArray.trans rfl) (by kernel_rfl) (by kernel_rfl) (by kernel_rfl) (fun _ _ _ h => h) (Or.inl ⟨by rfl, ?hy5005⟩) (by assumption) ?rest5005
          case hy5005 => (intro wq hSw; (try simp only [Two, Kn, Facts, CellsAt] at hSw); go_simp; try with_reducible rfl)
          try simp only [Act.put, List.setIfInBounds_toArray, List.set_cons_zero, List.set_cons_succ]
          refine wpAnyH_take (i := 5) (oi := _) (v := ?v5006) (List.getElem?_toArray.trans rfl) (by kernel_rfl) (by kernel_rfl) (by kernel_rfl) (fun _ _ _ h => h) (Or.inl ⟨by rfl, ?hy5006⟩) (by assumption) ?rest5006
          case hy5006 => (intro wq hSw; (try simp only [Two, Kn, Facts, CellsAt] at hSw); go_simp; try with_reducible rfl)
          try simp only [Act.put, List.setIfInBounds_toArray, List.set_cons_zero, List.set_cons_succ]
          refine wpAnyH_ready (rs := [4, 12]) (by kernel_rfl) (by simp) ?rdy5007
          refine (AllReadyH.cons (List.getElem?_toArray.trans rfl) (fun K hK => ?stp5007_4) (AllReadyH.cons (List.getElem?_toArray.trans rfl) (fun K hK => ?stp5007_12) AllReadyH.nil))
          case stp5007_4 =>
            go_simp
            go_wp2_with fail
            (refine (CW.out _).mono ?_; rintro e w4 ⟨rfl, hb4⟩; have s4 : w0.heap.size ≤ w4.heap.size := (by have := hb4.size; first | exact this | (simp at this; omega)); first | (have U4 : Blk w4 w0.heap.size #[.bool false, .int .u64 0, .int .u64 0, .int .i64 0] 28 := Blk.via hb4 (Blk.new w0 #[.bool false, .int .u64 0, .int .u64 0, .int .i64 0] 28) rfl; obtain ⟨u0, u1, u2, u3, u4, u5, u6, u7, u8⟩ := U4.four) | skip)
            go_wp2_with fail
            refine hK.out _ _ ?hSn5008 (fun hHeld2 => ?rest5008)
            case hSn5008 => (first | with_reducible exact R0.drew | with_reducible exact (R0.alloc _).drew | with_reducible exact hHeld.below hb4 | with_reducible exact hHeld.below hb5 | with_reducible exact hHeld.below hb6 | with_reducible exact hHeld.alloc _ | with_reducible exact K6.alloc _ | with_reducible exact hHeld.far4 (by simp only [Off]; repeat' (first | exact trivial | refine And.intro ?_ ?_ | omega)) (by omega) _ _ _ _ | with_reducible exact K6.far4 (by simp only [Off]; repeat' (first | exact trivial | refine And.intro ?_ ?_ | omega)) (by omega) _ _ _ _ | with_reducible exact (K6.alloc _).far4 (by simp only [Off]; repeat' (first | exact trivial | refine And.intro ?_ ?_ | omega)) (by omega) _ _ _ _)
            clear hK K hHeld
            have hHeld := hHeld2
            clear hHeld2
            try simp only [Act.put, List.setIfInBounds_toArray, List.set_cons_zero, List.set_cons_succ]
            refine wpAnyH_take (i := 6) (oi := _) (v := ?v5009) (List.getElem?_toArray.trans rfl) (by kernel_rfl) (by kernel_rfl) (by kernel_rfl) (fun _ _ _ h => h) (Or.inl ⟨by rfl, ?hy5009⟩) (by assumption) ?rest5009
            case hy5009 => (intro wq hSw; (try simp only [Two, Kn, Facts, CellsAt] at hSw); go_simp; try with_reducible rfl)
            try simp only [Act.put, List.setIfInBounds_toArray, List.set_cons_zero, List.set_cons_succ]
            refine wpAnyH_ready (rs := [7, 12]) (by kernel_rfl) (by simp) ?rdy5010
            refine (AllReadyH.cons (List.getElem?_toArray.trans rfl) (fun K hK => ?stp5010_7) (AllReadyH.cons (List.getElem?_toArray.trans rfl) (fun K hK => ?stp5010_12) AllReadyH.nil))
            case stp5010_7 =>
              go_simp
              go_wp2_with fail
              (refine (CS.out _).mono ?_; rintro e w5 ⟨rfl, hb5⟩; have s5 : w4.heap.size ≤ w5.heap.size := (by have := hb5.size; first | exact this | (simp at this; omega)); first | (have U5 := U4.below hb5; obtain ⟨a0, a1, a2, a3, a4, a5, a6, a7, a8⟩ := U5.four) | (have U5 : Blk w5 w4.heap.size #[.bool false, .int .u64 0, .int .u64 0, .int .i64 0] 28 := Blk.via hb5 (Blk.new w4 #[.bool false, .int .u64 0, .int .u64 0, .int .i64 0] 28) rfl; obtain ⟨a0, a1, a2, a3, a4, a5, a6, a7, a8⟩ := U5.four) | skip)
              go_wp2_with fail
              refine hK.out _ _ ?hSn5011 (fun hHeld2 => ?rest5011)
              case hSn5011 => (first | with_reducible exact R0.drew | with_reducible exact (R0.alloc _).drew | with_reducible exact hHeld.below hb4 | with_reducible exact hHeld.below hb5 | with_reducible exact hHeld.below hb6 | with_reducible exact hHeld.alloc _ | with_reducible exact K6.alloc _ | with_reducible exact hHeld.far4 (by simp only [Off]; repeat' (first | exact trivial | refine And.intro ?_ ?_ | omega)) (by omega) _ _ _ _ | with_reducible exact K6.far4 (by simp only [Off]; repeat' (first | exact trivial | refine And.intro ?_ ?_ | omega)) (by omega) _ _ _ _ | with_reducible exact (K6.alloc _).far4 (by simp only [Off]; repeat' (first | exact trivial | refine And.intro ?_ ?_ | omega)) (by omega) _ _ _ _)
              clear hK K hHeld
              have hHeld := hHeld2
              clear hHeld2
              try simp only [Act.put, List.setIfInBounds_toArray, List.set_cons_zero, List.set_cons_succ]
              refine wpAnyH_ready (rs := [8, 12]) (by kernel_rfl) (by simp) ?rdy5012
              refine (AllReadyH.cons (List.getElem?_toArray.trans rfl) (fun K hK => ?stp5012_8) (AllReadyH.cons (List.getElem?_toArray.trans rfl) (fun K hK => ?stp5012_12) AllReadyH.nil))
              case stp5012_8 =>
                go_simp
                go_wp2_with fail
                (refine (CB.out _).mono ?_; rintro e w6 ⟨rfl, hb6⟩; have K6 := hHeld.below hb6; have s6 : w5.heap.size ≤ w6.heap.size := (by have := hb6.size; first | exact this | (simp at this; omega)); first | (have U6 := U5.below hb6; obtain ⟨p0, p1, p2, p3, p4, p5, p6, p7, p8⟩ := U6.four) | (have U6 : Blk w6 w5.heap.size #[.bool false, .int .u64 0, .int .u64 0, .int .i64 0] 28 := Blk.via hb6 (Blk.new w5 #[.bool false, .int .u64 0, .int .u64 0, .int .i64 0] 28) rfl; obtain ⟨p0, p1, p2, p3, p4, p5, p6, p7, p8⟩ := U6.four) | skip)
                go_wp2_with fail
                refine hK.out _ _ ?hSn5013 (fun hHeld2 => ?rest5013)
                case hSn5013 => (first | with_reducible exact R0.drew | with_reducible exact (R0.alloc _).drew | with_reducible exact hHeld.below hb4 | with_reducible exact hHeld.below hb5 | with_reducible exact hHeld.below hb6 | with_reducible exact hHeld.alloc _ | with_reducible exact K6.alloc _ | with_reducible exact hHeld.far4 (by simp only [Off]; repeat' (first | exact trivial | refine And.intro ?_ ?_ | omega)) (by omega) _ _ _ _ | with_reducible exact K6.far4 (by simp only [Off]; repeat' (first | exact trivial | refine And.intro ?_ ?_ | omega)) (by omega) _ _ _ _ | with_reducible exact (K6.alloc _).far4 (by simp only [Off]; repeat' (first | exact trivial | refine And.intro ?_ ?_ | omega)) (by omega) _ _ _ _)
                clear hK K hHeld
                have hHeld := hHeld2
                clear hHeld2
                try simp only [Act.put, List.setIfInBounds_toArray, List.set_cons_zero, List.set_cons_succ]
                refine wpAnyH_take (i := 9) (oi := _) (v := ?v5014) (List.getElem?_toArray.trans rfl) (by kernel_rfl) (by kernel_rfl) (by kernel_rfl) (fun _ _ _ h => h) (Or.inl ⟨by rfl, ?hy5014⟩) (by assumption) ?rest5014
                case hy5014 => (intro wq hSw; (try simp only [Two, Kn, Facts, CellsAt] at hSw); go_simp; try with_reducible rfl)
                try simp only [Act.put, List.setIfInBounds_toArray, List.set_cons_zero, List.set_cons_succ]
                refine wpAnyH_take (i := 10) (oi := _) (v := ?v5015) (List.getElem?_toArray.trans rfl) (by kernel_rfl) (by kernel_rfl) (by kernel_rfl) (fun _ _ _ h => h) (Or.inl ⟨by rfl, ?hy5015⟩) (by assumption) ?rest5015
                case hy5015 => (intro wq hSw; (try simp only [Two, Kn, Facts, CellsAt] at hSw); go_simp; try with_reducible rfl)
                try simp only [Act.put, List.setIfInBounds_toArray, List.set_cons_zero, List.set_cons_succ]
                refine wpAnyH_take (i := 11) (oi := _) (v := ?v5016) (List.getElem?_toArray.trans rfl) (by kernel_rfl) (by kernel_rfl) (by kernel_rfl) (fun _ _ _ h => h) (Or.inl ⟨by rfl, ?hy5016⟩) (by assumption) ?rest5016
                case hy5016 => (intro wq hSw; (try simp only [Two, Kn, Facts, CellsAt] at hSw); go_simp; try with_reducible rfl)
                try simp only [Act.put, List.setIfInBounds_toArray, List.set_cons_zero, List.set_cons_succ]
                refine wpAnyH_ready (rs := [12]) (by kernel_rfl) (by simp) ?rdy5017
                refine (AllReadyH.cons (List.getElem?_toArray.trans rfl) (fun K hK => ?stp5017_12) AllReadyH.nil)
                case stp5017_12 =>
                  go_simp
                  go_wp2_with fail
                  refine hK.out _ _ ?hSn5018 (fun hHeld2 => ?rest5018)
                  case hSn5018 => (first | with_reducible exact R0.drew | with_reducible exact (R0.alloc _).drew | with_reducible exact hHeld.below hb4 | with_reducible exact hHeld.below hb5 | with_reducible exact hHeld.below hb6 | with_reducible exact hHeld.alloc _ | with_reducible exact K6.alloc _ | with_reducible exact hHeld.far4 (by simp only [Off]; repeat' (first | exact trivial | refine And.intro ?_ ?_ | omega)) (by omega) _ _ _ _ | with_reducible exact K6.far4 (by simp only [Off]; repeat' (first | exact trivial | refine And.intro ?_ ?_ | omega)) (by omega) _ _ _ _ | with_reducible exact (K6.alloc _).far4 (by simp only [Off]; repeat' (first | exact trivial | refine And.intro ?_ ?_ | omega)) (by omega) _ _ _ _)
                  clear hK K hHeld
                  have hHeld := hHeld2
                  clear hHeld2
                  try simp only [Act.put, List.setIfInBounds_toArray, List.set_cons_zero, List.set_cons_succ]
                  refine wpAnyH_ready (rs := [13]) (by kernel_rfl) (by simp) ?rdy5019
                  refine (AllReadyH.cons (List.getElem?_toArray.trans rfl) (fun K hK => ?stp5019_13) AllReadyH.nil)
                  case stp5019_13 =>
                    go_simp
                    go_wp2_with fail
                    refine hK.out _ _ ?hSn5020 (fun hHeld2 => ?rest5020)
                    case hSn5020 => (first | with_reducible exact R0.drew | with_reducible exact (R0.alloc _).drew | with_reducible exact hHeld.below hb4 | with_reducible exact hHeld.below hb5 | with_reducible exact hHeld.below hb6 | with_reducible exact hHeld.alloc _ | with_reducible exact K6.alloc _ | with_reducible exact hHeld.far4 (by simp only [Off]; repeat' (first | exact trivial | refine And.intro ?_ ?_ | omega)) (by omega) _ _ _ _ | with_reducible exact K6.far4 (by simp only [Off]; repeat' (first | exact trivial | refine And.intro ?_ ?_ | omega)) (by omega) _ _ _ _ | with_reducible exact (K6.alloc _).far4 (by simp only [Off]; repeat' (first | exact trivial | refine And.intro ?_ ?_ | omega)) (by omega) _ _ _ _)
                    clear hK K hHeld
                    have hHeld := hHeld2
                    clear hHeld2
                    try simp only [Act.put, List.setIfInBounds_toArray, List.set_cons_zero, List.set_cons_succ]
                    refine wpAnyH_take (i := 14) (oi := _) (v := ?v5021) (List.getElem?_toArray.trans rfl) (by kernel_rfl) (by kernel_rfl) (by kernel_rfl) (fun _ _ _ h => h) (Or.inl ⟨by rfl, ?hy5021⟩) (by assumption) ?rest5021
                    case hy5021 => (intro wq hSw; (try simp only [Two, Kn, Facts, CellsAt] at hSw); go_simp; try with_reducible rfl)
                    try simp only [Act.put, List.setIfInBounds_toArray, List.set_cons_zero, List.set_cons_succ]
                    refine wpAnyH_done (by kernel_rfl) ?_ _
                    go_wp2_with fail
                    go_meet
                    case rel => exact ⟨_, rfl, rfl, (by repeat (first | with_reducible exact Blk.new _ _ _ | with_reducible exact U6 | with_reducible refine Blk.put4 (x := .bool false) (y := .int .u64 0) (z := .int .u64 0) (q := .int .i64 0) ?_ _ _ _ _)), hHeld⟩
              case stp5012_12 =>
                go_simp
                go_wp2_with fail
                refine hK.out _ _ ?hSn5022 (fun hHeld2 => ?rest5022)
                case hSn5022 => (first | with_reducible exact R0.drew | with_reducible exact (R0.alloc _).drew | with_reducible exact hHeld.below hb4 | with_reducible exact hHeld.below hb5 | with_reducible exact hHeld.below hb6 | with_reducible exact hHeld.alloc _ | with_reducible exact K6.alloc _ | with_reducible exact hHeld.far4 (by simp only [Off]; repeat' (first | exact trivial | refine And.intro ?_ ?_ | omega)) (by omega) _ _ _ _ | with_reducible exact K6.far4 (by simp only [Off]; repeat' (first | exact trivial | refine And.intro ?_ ?_ | omega)) (by omega) _ _ _ _ | with_reducible exact (K6.alloc _).far4 (by simp only [Off]; repeat' (first | exact trivial | refine And.intro ?_ ?_ | omega)) (by omega) _ _ _ _)
                clear hK K hHeld
                have hHeld := hHeld2
                clear hHeld2
                try simp only [Act.put, List.setIfInBounds_toArray, List.set_cons_zero, List.set_cons_succ]
                refine wpAnyH_ready (rs := [8]) (by kernel_rfl) (by simp) ?rdy5023
                refine (AllReadyH.cons (List.getElem?_toArray.trans rfl) (fun K hK => ?stp5023_8) AllReadyH.nil)
                case stp5023_8 =>
                  go_simp
                  go_wp2_with fail
                  (refine (CB.out _).mono ?_; rintro e w6 ⟨rfl, hb6⟩; have K6 := hHeld.below hb6; have s6 : w5.heap.size ≤ w6.heap.size := (by have := hb6.size; first | exact this | (simp at this; omega)); first | (have U6 := U5.below hb6; obtain ⟨p0, p1, p2, p3, p4, p5, p6, p7, p8⟩ := U6.four) | (have U6 : Blk w6 w5.heap.size #[.bool false, .int .u64 0, .int .u64 0, .int .i64 0] 28 := Blk.via hb6 (Blk.new w5 #[.bool false, .int .u64 0, .int .u64 0, .int .i64 0] 28) rfl; obtain ⟨p0, p1, p2, p3, p4, p5, p6, p7, p8⟩ := U6.four) | skip)
                  go_wp2_with fail
                  refine hK.out _ _ ?hSn5024 (fun hHeld2 => ?rest5024)
                  case hSn5024 => (first | with_reducible exact R0.drew | with_reducible exact (R0.alloc _).drew | with_reducible exact hHeld.below hb4 | with_reducible exact hHeld.below hb5 | with_reducible exact hHeld.below hb6 | with_reducible exact hHeld.alloc _ | with_reducible exact K6.alloc _ | with_reducible exact hHeld.far4 (by simp only [Off]; repeat' (first | exact trivial | refine And.intro ?_ ?_ | omega)) (by omega) _ _ _ _ | with_reducible exact K6.far4 (by simp only [Off]; repeat' (first | exact trivial | refine And.intro ?_ ?_ | omega)) (by omega) _ _ _ _ | with_reducible exact (K6.alloc _).far4 (by simp only [Off]; repeat' (first | exact trivial | refine And.intro ?_ ?_ | omega)) (by omega) _ _ _ _)
                  clear hK K hHeld
                  have hHeld := hHeld2
                  clear hHeld2
                  try simp only [Act.put, List.setIfInBounds_toArray, List.set_cons_zero, List.set_cons_succ]
                  refine wpAnyH_take (i := 9) (oi := _) (v := ?v5025) (List.getElem?_toArray.trans rfl) (by kernel_rfl) (by kernel_rfl) (by kernel_rfl) (fun _ _ _ h => h) (Or.inl ⟨by rfl, ?hy5025⟩) (by assumption) ?rest5025
                  case hy5025 => (intro wq hSw; (try simp only [Two, Kn, Facts, CellsAt] at hSw); go_simp; try with_reducible rfl)
                  try simp only [Act.put, List.setIfInBounds_toArray, List.set_cons_zero, List.set_cons_succ]
                  refine wpAnyH_take (i := 10) (oi := _) (v := ?v5026) (List.getElem?_toArray.trans rfl) (by kernel_rfl) (by kernel_rfl) (by kernel_rfl) (fun _ _ _ h => h) (Or.inl ⟨by rfl, ?hy5026⟩) (by assumption) ?rest5026
                  case hy5026 => (intro wq hSw; (try simp only [Two, Kn, Facts, CellsAt] at hSw); go_simp; try with_reducible rfl)
                  try simp only [Act.put, List.setIfInBounds_toArray, List.set_cons_zero, List.set_cons_succ]
                  refine wpAnyH_take (i := 11) (oi := _) (v := ?v5027) (List.getElem?_toArray.trans rfl) (by kernel_rfl) (by kernel_rfl) (by kernel_rfl) (fun _ _ _ h => h) (Or.inl ⟨by rfl, ?hy5027⟩) (by assumption) ?rest5027
                  case hy5027 => (intro wq hSw; (try simp only [Two, Kn, Facts, CellsAt] at hSw); go_simp; try with_reducible rfl)
                  try simp only [Act.put, List.setIfInBounds_toArray, List.set_cons_zero, List.set_cons_succ]
                  refine wpAnyH_ready (rs := [13]) (by kernel_rfl) (by simp) ?rdy5028
                  refine (AllReadyH.cons (List.getElem?_toArray.trans rfl) (fun K hK => ?stp5028_13) AllReadyH.nil)
                  case stp5028_13 =>
                    go_simp
                    go_wp2_with fail
                    refine hK.out _ _ ?hSn5029 (fun hHeld2 => ?rest5029)
                    case hSn5029 => (first | with_reducible exact R0.drew | with_reducible exact (R0.alloc _).drew | with_reducible exact hHeld.below hb4 | with_reducible exact hHeld.below hb5 | with_reducible exact hHeld.below hb6 | with_reducible exact hHeld.alloc _ | with_reducible exact K6.alloc _ | with_reducible exact hHeld.far4 (by simp only [Off]; repeat' (first | exact trivial | refine And.intro ?_ ?_ | omega)) (by omega) _ _ _ _ | with_reducible exact K6.far4 (by simp only [Off]; repeat' (first | exact trivial | refine And.intro ?_ ?_ | omega)) (by omega) _ _ _ _ | with_reducible exact (K6.alloc _).far4 (by simp only [Off]; repeat' (first | exact trivial | refine And.intro ?_ ?_ | omega)) (by omega) _ _ _ _)
                    clear hK K hHeld
                    have hHeld := hHeld2
                    clear hHeld2
                    try simp only [Act.put, List.setIfInBounds_toArray, List.set_cons_zero, List.set_cons_succ]
                    refine wpAnyH_take (i := 14) (oi := _) (v := ?v5030) (List.getElem?_toArray.trans rfl) (by kernel_rfl) (by kernel_rfl) (by kernel_rfl) (fun _ _ _ h => h) (Or.inl ⟨by rfl, ?hy5030⟩) (by assumption) ?rest5030
                    case hy5030 => (intro wq hSw; (try simp only [Two, Kn, Facts, CellsAt] at hSw); go_simp; try with_reducible rfl)
                    try simp only [Act.put, List.setIfInBounds_toArray, List.set_cons_zero, List.set_cons_succ]
                    refine wpAnyH_done (by kernel_rfl) ?_ _
                    go_wp2_with fail
                    go_meet
                    case rel => exact ⟨_, rfl, rfl, (by repeat (first | with_reducible exact Blk.new _ _ _ | with_reducible exact U6 | with_reducible refine Blk.put4 (x := .bool false) (y := .int .u64 0) (z := .int .u64 0) (q := .int .i64 0) ?_ _ _ _ _)), hHeld⟩
            case stp5010_12 =>
              go_simp
              go_wp2_with fail
              refine hK.out _ _ ?hSn5031 (fun hHeld2 => ?rest5031)
              case hSn5031 => (first | with_reducible exact R0.drew | with_reducible exact (R0.alloc _).drew | with_reducible exact hHeld.below hb4 | with_reducible exact hHeld.below hb5 | with_reducible exact hHeld.below hb6 | with_reducible exact hHeld.alloc _ | with_reducible exact K6.alloc _ | with_reducible exact hHeld.far4 (by simp only [Off]; repeat' (first | exact trivial | refine And.intro ?_ ?_ | omega)) (by omega) _ _ _ _ | with_reducible exact K6.far4 (by simp only [Off]; repeat' (first | exact trivial | refine And.intro ?_ ?_ | omega)) (by omega) _ _ _ _ | with_reducible exact (K6.alloc _).far4 (by simp only [Off]; repeat' (first | exact trivial | refine And.intro ?_ ?_ | omega)) (by omega) _ _ _ _)
              clear hK K hHeld
              have hHeld := hHeld2
              clear hHeld2
              try simp only [Act.put, List.setIfInBounds_toArray, List.set_cons_zero, List.set_cons_succ]
              refine wpAnyH_ready (rs := [7]) (by kernel_rfl) (by simp) ?rdy5032
              refine (AllReadyH.cons (List.getElem?_toArray.trans rfl) (fun K hK => ?stp5032_7) AllReadyH.nil)
              case stp5032_7 =>
                go_simp
                go_wp2_with fail
                (refine (CS.out _).mono ?_; rintro e w5 ⟨rfl, hb5⟩; have s5 : w4.heap.size ≤ w5.heap.size := (by have := hb5.size; first | exact this | (simp at this; omega)); first | (have U5 := U4.below hb5; obtain ⟨a0, a1, a2, a3, a4, a5, a6, a7, a8⟩ := U5.four) | (have U5 : Blk w5 w4.heap.size #[.bool false, .int .u64 0, .int .u64 0, .int .i64 0] 28 := Blk.via hb5 (Blk.new w4 #[.bool false, .int .u64 0, .int .u64 0, .int .i64 0] 28) rfl; obtain ⟨a0, a1, a2, a3, a4, a5, a6, a7, a8⟩ := U5.four) | skip)
                go_wp2_with fail
                refine hK.out _ _ ?hSn5033 (fun hHeld2 => ?rest5033)
                case hSn5033 => (first | with_reducible exact R0.drew | with_reducible exact (R0.alloc _).drew | with_reducible exact hHeld.below hb4 | with_reducible exact hHeld.below hb5 | with_reducible exact hHeld.below hb6 | with_reducible exact hHeld.alloc _ | with_reducible exact K6.alloc _ | with_reducible exact hHeld.far4 (by simp only [Off]; repeat' (first | exact trivial | refine And.intro ?_ ?_ | omega)) (by omega) _ _ _ _ | with_reducible exact K6.far4 (by simp only [Off]; repeat' (first | exact trivial | refine And.intro ?_ ?_ | omega)) (by omega) _ _ _ _ | with_reducible exact (K6.alloc _).far4 (by simp only [Off]; repeat' (first | exact trivial | refine And.intro ?_ ?_ | omega)) (by omega) _ _ _ _)
                clear hK K hHeld
                have hHeld := hHeld2
                clear hHeld2
                try simp only [Act.put, List.setIfInBounds_toArray, List.set_cons_zero, List.set_cons_succ]
                refine wpAnyH_ready (rs := [8]) (by kernel_rfl) (by simp) ?rdy5034
                refine (AllReadyH.cons (List.getElem?_toArray.trans rfl) (fun K hK => ?stp5034_8) AllReadyH.nil)
                case stp5034_8 =>
                  go_simp
                  go_wp2_with fail
                  (refine (CB.out _).mono ?_; rintro e w6 ⟨rfl, hb6⟩; have K6 := hHeld.below hb6; have s6 : w5.heap.size ≤ w6.heap.size := (by have := hb6.size; first | exact this | (simp at this; omega)); first | (have U6 := U5.below hb6; obtain ⟨p0, p1, p2, p3, p4, p5, p6, p7, p8⟩ := U6.four) | (have U6 : Blk w6 w5.heap.size #[.bool false, .int .u64 0, .int .u64 0, .int .i64 0] 28 := Blk.via hb6 (Blk.new w5 #[.bool false, .int .u64 0, .int .u64 0, .int .i64 0] 28) rfl; obtain ⟨p0, p1, p2, p3, p4, p5, p6, p7, p8⟩ := U6.four) | skip)
                  go_wp2_with fail
                  refine hK.out _ _ ?hSn5035 (fun hHeld2 => ?rest5035)
                  case hSn5035 => (first | with_reducible exact R0.drew | with_reducible exact (R0.alloc _).drew | with_reducible exact hHeld.below hb4 | with_reducible exact hHeld.below hb5 | with_reducible exact hHeld.below hb6 | with_reducible exact hHeld.alloc _ | with_reducible exact K6.alloc _ | with_reducible exact hHeld.far4 (by simp only [Off]; repeat' (first | exact trivial | refine And.intro ?_ ?_ | omega)) (by omega) _ _ _ _ | with_reducible exact K6.far4 (by simp only [Off]; repeat' (first | exact trivial | refine And.intro ?_ ?_ | omega)) (by omega) _ _ _ _ | with_reducible exact (K6.alloc _).far4 (by simp only [Off]; repeat' (first | exact trivial | refine And.intro ?_ ?_ | omega)) (by omega) _ _ _ _)
                  clear hK K hHeld
                  have hHeld := hHeld2
                  clear hHeld2
                  try simp only [Act.put, List.setIfInBounds_toArray, List.set_cons_zero, List.set_cons_succ]
                  refine wpAnyH_take (i := 9) (oi := _) (v := ?v5036) (List.getElem?_toArray.trans rfl) (by kernel_rfl) (by kernel_rfl) (by kernel_rfl) (fun _ _ _ h => h) (Or.inl ⟨by rfl, ?hy5036⟩) (by assumption) ?rest5036
                  case hy5036 => (intro wq hSw; (try simp only [Two, Kn, Facts, CellsAt] at hSw); go_simp; try with_reducible rfl)
                  try simp only [Act.put, List.setIfInBounds_toArray, List.set_cons_zero, List.set_cons_succ]
                  refine wpAnyH_take (i := 10) (oi := _) (v := ?v5037) (List.getElem?_toArray.trans rfl) (by kernel_rfl) (by kernel_rfl) (by kernel_rfl) (fun _ _ _ h => h) (Or.inl ⟨by rfl, ?hy5037⟩) (by assumption) ?rest5037
                  case hy5037 => (intro wq hSw; (try simp only [Two, Kn, Facts, CellsAt] at hSw); go_simp; try with_reducible rfl)
                  try simp only [Act.put, List.setIfInBounds_toArray, List.set_cons_zero, List.set_cons_succ]
                  refine wpAnyH_take (i := 11) (oi := _) (v := ?v5038) (List.getElem?_toArray.trans rfl) (by kernel_rfl) (by kernel_rfl) (by kernel_rfl) (fun _ _ _ h => h) (Or.inl ⟨by rfl, ?hy5038⟩) (by assumption) ?rest5038
                  case hy5038 => (intro wq hSw; (try simp only [Two, Kn, Facts, CellsAt] at hSw); go_simp; try with_reducible rfl)
                  try simp only [Act.put, List.setIfInBounds_toArray, List.set_cons_zero, List.set_cons_succ]
                  refine wpAnyH_ready (rs := [13]) (by kernel_rfl) (by simp) ?rdy5039
                  refine (AllReadyH.cons (List.getElem?_toArray.trans rfl) (fun K hK => ?stp5039_13) AllReadyH.nil)
                  case stp5039_13 =>
                    go_simp
                    go_wp2_with fail
                    refine hK.out _ _ ?hSn5040 (fun hHeld2 => ?rest5040)
                    case hSn5040 => (first | with_reducible exact R0.drew | with_reducible exact (R0.alloc _).drew | with_reducible exact hHeld.below hb4 | with_reducible exact hHeld.below hb5 | with_reducible exact hHeld.below hb6 | with_reducible exact hHeld.alloc _ | with_reducible exact K6.alloc _ | with_reducible exact hHeld.far4 (by simp only [Off]; repeat' (first | exact trivial | refine And.intro ?_ ?_ | omega)) (by omega) _ _ _ _ | with_reducible exact K6.far4 (by simp only [Off]; repeat' (first | exact trivial | refine And.intro ?_ ?_ | omega)) (by omega) _ _ _ _ | with_reducible exact (K6.alloc _).far4 (by simp only [Off]; repeat' (first | exact trivial | refine And.intro ?_ ?_ | omega)) (by omega) _ _ _ _)
                    clear hK K hHeld
                    have hHeld := hHeld2
                    clear hHeld2
                    try simp only [Act.put, List.setIfInBounds_toArray, List.set_cons_zero, List.set_cons_succ]
                    refine wpAnyH_take (i := 14) (oi := _) (v := ?v5041) (List.getElem?_toArray.trans rfl) (by kernel_rfl) (by kernel_rfl) (by kernel_rfl) (fun _ _ _ h => h) (Or.inl ⟨by rfl, ?hy5041⟩) (by assumption) ?rest5041
                    case hy5041 => (intro wq hSw; (try simp only [Two, Kn, Facts, CellsAt] at hSw); go_simp; try with_reducible rfl)
                    try simp only [Act.put, List.setIfInBounds_toArray, List.set_cons_zero, List.set_cons_succ]
                    refine wpAnyH_done (by kernel_rfl) ?_ _
                    go_wp2_with fail
                    go_meet
                    case rel => exact ⟨_, rfl, rfl, (by repeat (first | with_reducible exact Blk.new _ _ _ | with_reducible exact U6 | with_reducible refine Blk.put4 (x := .bool false) (y := .int .u64 0) (z := .int .u64 0) (q := .int .i64 0) ?_ _ _ _ _)), hHeld⟩
          case stp5007_12 =>
            go_simp
            go_wp2_with fail
            refine hK.out _ _ ?hSn5042 (fun hHeld2 => ?rest5042)
            case hSn5042 => (first | with_reducible exact R0.drew | with_reducible exact (R0.alloc _).drew | with_reducible exact hHeld.below hb4 | with_reducible exact hHeld.below hb5 | with_reducible exact hHeld.below hb6 | with_reducible exact hHeld.alloc _ | with_reducible exact K6.alloc _ | with_reducible exact hHeld.far4 (by simp only [Off]; repeat' (first | exact trivial | refine And.intro ?_ ?_ | omega)) (by omega) _ _ _ _ | with_reducible exact K6.far4 (by simp only [Off]; repeat' (first | exact trivial | refine And.intro ?_ ?_ | omega)) (by omega) _ _ _ _ | with_reducible exact (K6.alloc _).far4 (by simp only [Off]; repeat' (first | exact trivial | refine And.intro ?_ ?_ | omega)) (by omega) _ _ _ _)
            clear hK K hHeld
            have hHeld := hHeld2
            clear hHeld2
            try simp only [Act.put, List.setIfInBounds_toArray, List.set_cons_zero, List.set_cons_succ]
            refine wpAnyH_ready (rs := [4]) (by kernel_rfl) (by simp) ?rdy5043
            refine (AllReadyH.cons (List.getElem?_toArray.trans rfl) (fun K hK => ?stp5043_4) AllReadyH.nil)
            case stp5043_4 =>
              go_simp
              go_wp2_with fail
              (refine (CW.out _).mono ?_; rintro e w4 ⟨rfl, hb4⟩; have s4 : w0.heap.size ≤ w4.heap.size := (by have := hb4.size; first | exact this | (simp at this; omega)); first | (have U4 : Blk w4 w0.heap.size #[.bool false, .int .u64 0, .int .u64 0, .int .i64 0] 28 := Blk.via hb4 (Blk.new w0 #[.bool false, .int .u64 0, .int .u64 0, .int .i64 0] 28) rfl; obtain ⟨u0, u1, u2, u3, u4, u5, u6, u7, u8⟩ := U4.four) | skip)
              go_wp2_with fail
              refine hK.out _ _ ?hSn5044 (fun hHeld2 => ?rest5044)
              case hSn5044 => (first | with_reducible exact R0.drew | with_reducible exact (R0.alloc _).drew | with_reducible exact hHeld.below hb4 | with_reducible exact hHeld.below hb5 | with_reducible exact hHeld.below hb6 | with_reducible exact hHeld.alloc _ | with_reducible exact K6.alloc _ | with_reducible exact hHeld.far4 (by simp only [Off]; repeat' (first | exact trivial | refine And.intro ?_ ?_ | omega)) (by omega) _ _ _ _ | with_reducible exact K6.far4 (by simp only [Off]; repeat' (first | exact trivial | refine And.intro ?_ ?_ | omega)) (by omega) _ _ _ _ | with_reducible exact (K6.alloc _).far4 (by simp only [Off]; repeat' (first | exact trivial | refine And.intro ?_ ?_ | omega)) (by omega) _ _ _ _)
              clear hK K hHeld
              have hHeld := hHeld2
              clear hHeld2
              try simp only [Act.put, List.setIfInBounds_toArray, List.set_cons_zero, List.set_cons_succ]
              refine wpAnyH_take (i := 6) (oi := _) (v := ?v5045) (List.getElem?_toArray.trans rfl) (by kernel_rfl) (by kernel_rfl) (by kernel_rfl) (fun _ _ _ h => h) (Or.inl ⟨by rfl, ?hy5045⟩) (by assumption) ?rest5045
              case hy5045 => (intro wq hSw; (try simp only [Two, Kn, Facts, CellsAt] at hSw); go_simp; try with_reducible rfl)
              try simp only [Act.put, List.setIfInBounds_toArray, List.set_cons_zero, List.set_cons_succ]
              refine wpAnyH_ready (rs := [7]) (by kernel_rfl) (by simp) ?rdy5046
              refine (AllReadyH.cons (List.getElem?_toArray.trans rfl) (fun K hK => ?stp5046_7) AllReadyH.nil)
              case stp5046_7 =>
                go_simp
                go_wp2_with fail
                (refine (CS.out _).mono ?_; rintro e w5 ⟨rfl, hb5⟩; have s5 : w4.heap.size ≤ w5.heap.size := (by have := hb5.size; first | exact this | (simp at this; omega)); first | (have U5 := U4.below hb5; obtain ⟨a0, a1, a2, a3, a4, a5, a6, a7, a8⟩ := U5.four) | (have U5 : Blk w5 w4.heap.size #[.bool false, .int .u64 0, .int .u64 0, .int .i64 0] 28 := Blk.via hb5 (Blk.new w4 #[.bool false, .int .u64 0, .int .u64 0, .int .i64 0] 28) rfl; obtain ⟨a0, a1, a2, a3, a4, a5, a6, a7, a8⟩ := U5.four) | skip)
                go_wp2_with fail
                refine hK.out _ _ ?hSn5047 (fun hHeld2 => ?rest5047)
                case hSn5047 => (first | with_reducible exact R0.drew | with_reducible exact (R0.alloc _).drew | with_reducible exact hHeld.below hb4 | with_reducible exact hHeld.below hb5 | with_reducible exact hHeld.below hb6 | with_reducible exact hHeld.alloc _ | with_reducible exact K6.alloc _ | with_reducible exact hHeld.far4 (by simp only [Off]; repeat' (first | exact trivial | refine And.intro ?_ ?_ | omega)) (by omega) _ _ _ _ | with_reducible exact K6.far4 (by simp only [Off]; repeat' (first | exact trivial | refine And.intro ?_ ?_ | omega)) (by omega) _ _ _ _ | with_reducible exact (K6.alloc _).far4 (by simp only [Off]; repeat' (first | exact trivial | refine And.intro ?_ ?_ | omega)) (by omega) _ _ _ _)
                clear hK K hHeld
                have hHeld := hHeld2
                clear hHeld2
                try simp only [Act.put, List.setIfInBounds_toArray, List.set_cons_zero, List.set_cons_succ]
                refine wpAnyH_ready (rs := [8]) (by kernel_rfl) (by simp) ?rdy5048
                refine (AllReadyH.cons (List.getElem?_toArray.trans rfl) (fun K hK => ?stp5048_8) AllReadyH.nil)
                case stp5048_8 =>
                  go_simp
                  go_wp2_with fail
                  (refine (CB.out _).mono ?_; rintro e w6 ⟨rfl, hb6⟩; have K6 := hHeld.below hb6; have s6 : w5.heap.size ≤ w6.heap.size := (by have := hb6.size; first | exact this | (simp at this; omega)); first | (have U6 := U5.below hb6; obtain ⟨p0, p1, p2, p3, p4, p5, p6, p7, p8⟩ := U6.four) | (have U6 : Blk w6 w5.heap.size #[.bool false, .int .u64 0, .int .u64 0, .int .i64 0] 28 := Blk.via hb6 (Blk.new w5 #[.bool false, .int .u64 0, .int .u64 0, .int .i64 0] 28) rfl; obtain ⟨p0, p1, p2, p3, p4, p5, p6, p7, p8⟩ := U6.four) | skip)
                  go_wp2_with fail
                  refine hK.out _ _ ?hSn5049 (fun hHeld2 => ?rest5049)
                  case hSn5049 => (first | with_reducible exact R0.drew | with_reducible exact (R0.alloc _).drew | with_reducible exact hHeld.below hb4 | with_reducible exact hHeld.below hb5 | with_reducible exact hHeld.below hb6 | with_reducible exact hHeld.alloc _ | with_reducible exact K6.alloc _ | with_reducible exact hHeld.far4 (by simp only [Off]; repeat' (first | exact trivial | refine And.intro ?_ ?_ | omega)) (by omega) _ _ _ _ | with_reducible exact K6.far4 (by simp only [Off]; repeat' (first | exact trivial | refine And.intro ?_ ?_ | omega)) (by omega) _ _ _ _ | with_reducible exact (K6.alloc _).far4 (by simp only [Off]; repeat' (first | exact trivial | refine And.intro ?_ ?_ | omega)) (by omega) _ _ _ _)
                  clear hK K hHeld
                  have hHeld := hHeld2
                  clear hHeld2
                  try simp only [Act.put, List.setIfInBounds_toArray, List.set_cons_zero, List.set_cons_succ]
                  refine wpAnyH_take (i := 9) (oi := _) (v := ?v5050) (List.getElem?_toArray.trans rfl) (by kernel_rfl) (by kernel_rfl) (by kernel_rfl) (fun _ _ _ h => h) (Or.inl ⟨by rfl, ?hy5050⟩) (by assumption) ?rest5050
                  case hy5050 => (intro wq hSw; (try simp only [Two, Kn, Facts, CellsAt] at hSw); go_simp; try with_reducible rfl)
                  try simp only [Act.put, List.setIfInBounds_toArray, List.set_cons_zero, List.set_cons_succ]
                  refine wpAnyH_take (i := 10) (oi := _) (v := ?v5051) (List.getElem?_toArray.trans rfl) (by kernel_rfl) (by kernel_rfl) (by kernel_rfl) (fun _ _ _ h => h) (Or.inl ⟨by rfl, ?hy5051⟩) (by assumption) ?rest5051
                  case hy5051 => (intro wq hSw; (try simp only [Two, Kn, Facts, CellsAt] at hSw); go_simp; try with_reducible rfl)
                  try simp only [Act.put, List.setIfInBounds_toArray, List.set_cons_zero, List.set_cons_succ]
                  refine wpAnyH_take (i := 11) (oi := _) (v := ?v5052) (List.getElem?_toArray.trans rfl) (by kernel_rfl) (by kernel_rfl) (by kernel_rfl) (fun _ _ _ h => h) (Or.inl ⟨by rfl, ?hy5052⟩) (by assumption) ?rest5052
                  case hy5052 => (intro wq hSw; (try simp only [Two, Kn, Facts, CellsAt] at hSw); go_simp; try with_reducible rfl)
                  try simp only [Act.put, List.setIfInBounds_toArray, List.set_cons_zero, List.set_cons_succ]
                  refine wpAnyH_ready (rs := [13]) (by kernel_rfl) (by simp) ?rdy5053
                  refine (AllReadyH.cons (List.getElem?_toArray.trans rfl) (fun K hK => ?stp5053_13) AllReadyH.nil)
                  case stp5053_13 =>
                    go_simp
                    go_wp2_with fail
                    refine hK.out _ _ ?hSn5054 (fun hHeld2 => ?rest5054)
                    case hSn5054 => (first | with_reducible exact R0.drew | with_reducible exact (R0.alloc _).drew | with_reducible exact hHeld.below hb4 | with_reducible exact hHeld.below hb5 | with_reducible exact hHeld.below hb6 | with_reducible exact hHeld.alloc _ | with_reducible exact K6.alloc _ | with_reducible exact hHeld.far4 (by simp only [Off]; repeat' (first | exact trivial | refine And.intro ?_ ?_ | omega)) (by omega) _ _ _ _ | with_reducible exact K6.far4 (by simp only [Off]; repeat' (first | exact trivial | refine And.intro ?_ ?_ | omega)) (by omega) _ _ _ _ | with_reducible exact (K6.alloc _).far4 (by simp only [Off]; repeat' (first | exact trivial | refine And.intro ?_ ?_ | omega)) (by omega) _ _ _ _)
                    clear hK K hHeld
                    have hHeld := hHeld2
                    clear hHeld2
                    try simp only [Act.put, List.setIfInBounds_toArray, List.set_cons_zero, List.set_cons_succ]
                    refine wpAnyH_take (i := 14) (oi := _) (v := ?v5055) (List.getElem?_toArray.trans rfl) (by kernel_rfl) (by kernel_rfl) (by kernel_rfl) (fun _ _ _ h => h) (Or.inl ⟨by rfl, ?hy5055⟩) (by assumption) ?rest5055
                    case hy5055 => (intro wq hSw; (try simp only [Two, Kn, Facts, CellsAt] at hSw); go_simp; try with_reducible rfl)
                    try simp only [Act.put, List.setIfInBounds_toArray, List.set_cons_zero, List.set_cons_succ]
                    refine wpAnyH_done (by kernel_rfl) ?_ _
                    go_wp2_with fail
                    go_meet
                    case rel => exact ⟨_, rfl, rfl, (by repeat (first | with_reducible exact Blk.new _ _ _ | with_reducible exact U6 | with_reducible refine Blk.put4 (x := .bool false) (y := .int .u64 0) (z := .int .u64 0) (q := .int .i64 0) ?_ _ _ _ _)), hHeld⟩
        case rest =>
          obtain ⟨X, rfl, rfl, N, R⟩ := hcut
          have K := R.cons N
          have F := K.1
          simp only [Facts, CellsAt] at F
          clear R0 R N CW CS CB LT hs0
          go_wp2_with fail
          refine (CHA.out _).mono ?_
          rintro e w7 ⟨rfl, hb⟩
          have B := (K.below hb).bel
          clear hb CHA K F
          go_wp2
          go_ret
          exact ⟨by first | rfl | simp, B⟩

theorem parts_walk {v s : Bool} {h l b k ih il jh jl ah al : Int} {n i j a : Nat} (hp : IsNum h l n) (hi : IsNum ih il i) (hj : IsNum jh jl j) (ha : IsNum ah al a) (w : World) (hL : LW w)
    (aw : ∀ w, LW w → Calls Tryz.prog 29 #[] w fun e w' => e = .returned (.bool true) ∧ Below w.heap.size w w') :
    Calls Tryz.prog 8 #[pv v h l b, .int .i64 k, nv ih il, nv jh jl, av s ah al] w fun e w' => e = .returned (.bool true) ∧ Below w.heap.size w w' := by
  cases hc : cutB v n b k
  · exact parts_nocut hp ha hc w hL aw
  · exact parts_cut hp hi hj ha hc w hL aw
end Go.Proofs.YtmhnfgfdggjdhaaGreatDoor

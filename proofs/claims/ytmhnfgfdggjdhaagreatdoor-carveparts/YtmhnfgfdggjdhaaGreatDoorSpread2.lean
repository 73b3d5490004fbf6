/-
  What appendBetween of package carve appends, for every prefix; what Spread returns.
-/
import Derived.Test.YtmhnfgfdggjdhaaGreatDoorSpread1
namespace Go.Proofs.YtmhnfgfdggjdhaaGreatDoor
open Go.ChangeShapes Go.WideShapes Go.ChangeAt Go.RowKit
set_option linter.unusedVariables false
set_option linter.unusedSimpArgs false

theorem own_kept {w w' : World} {B e size n : Nat} {v : Value} {xs : List Value} (h : w.ownsRow B e size v n xs) (hb : Below w.heap.size w w') : w'.ownsRow B e size v n xs := by
  refine ⟨h.1, ?_⟩
  rcases h.2 with ⟨rfl, h0⟩ | ⟨g, cap, cur, rfl, hg, hh, r⟩
  · exact Or.inl ⟨rfl, h0⟩
  · exact Or.inr ⟨g, cap, cur, rfl, hg, (hb.block g (Array.getElem?_eq_some_iff.1 hh).1).trans hh, r⟩

theorem IsNum.words {h l : Int} {n : Nat} (x : IsNum h l n) : ((n / 18446744073709551616 : Nat) : Int) = h ∧ ((n % 18446744073709551616 : Nat) : Int) = l := by
  have := x.h0; have := x.h1; have := x.l0; have := x.l1; have := x.eq; omega

theorem cells_one {v : Bool} {h l b : Int} {n W : Nat} (hW : widthA v = (W : Nat)) (hp : IsNum h l n) (hk : okP v n b = true) : cellsL v W [(n, behindP v b)] = [.bool v, .int .u64 h, .int .u64 l, .int .i64 b] := by
  obtain ⟨_, h0, h1⟩ := fitsB_parts (okP_parts hk).1
  have e : ((W - behindP v b : Nat) : Int) = b := by unfold behindP; omega
  obtain ⟨e1, e2⟩ := hp.words
  show [Value.bool v, .int .u64 ((n / 18446744073709551616 : Nat) : Int), .int .u64 ((n % 18446744073709551616 : Nat) : Int), .int .i64 ((W - behindP v b : Nat) : Int)] = _
  rw [e, e1, e2]

theorem four_new (W : World) (x y z u : Value) (t : TypeId) : ∀ (j : Nat) (q : Value), [x, y, z, u][j]? = some q → (W.alloc (.cells #[x, y, z, u] t)).cell? ((⟨W.heap.size, 0, none⟩ : Addr).add j) = some q := by
  intro j q hj
  match j, hj with
  | 0, hj => simp at hj; subst hj; simp [Addr.add]
  | 1, hj => simp at hj; subst hj; simp [Addr.add]
  | 2, hj => simp at hj; subst hj; simp [Addr.add]
  | 3, hj => simp at hj; subst hj; simp [Addr.add]
  | j + 4, hj => simp at hj

set_option maxRecDepth 100000 in
set_option maxHeartbeats 3200000 in
theorem between_all {v : Bool} {h l b ah al zh zl : Int} {n a z W : Nat} (hW : widthA v = (W : Nat)) (hp : IsNum h l n) (ha : IsNum ah al a) (hz : IsNum zh zl z) (hk : okP v n b = true) (B : Nat) (val : Value) (cnt : Nat) (xs : List Value) (w : World) (hown : w.ownsRow B 28 4 val cnt xs) (hB : B ≤ w.heap.size) (hcnt : cnt < 1000000) (h1 : a ≤ n) (h2 : lastN v n b ≤ z) :
    Calls Tryz.prog 85 #[val, pv v h l b, av v ah al, av v zh zl] w fun e w' => ∃ val', e = .returned val' ∧ SpOut B v W w val cnt xs [(n, behindP v b)] val' w' := by
  obtain ⟨i0, hi, hz0, hz1, hz2⟩ := info_parts infoPfx
  have HX : Hid (cellsL v W [(n, behindP v b)] = [.bool v, .int .u64 h, .int .u64 l, .int .i64 b]) := cells_one hW hp hk
  obtain ⟨l1, l2⟩ := lastN_small hk hp.lt
  obtain ⟨eh, el, he⟩ := IsNum.ex l1
  have CF : Hid (∀ w', Calls Tryz.prog 16 #[pv v h l b] w' fun e w1 => e = .returned (av v h l) ∧ Below w'.heap.size w' w1) := fun w' => first_c hp (Or.inl ⟨hk, rfl, rfl, rfl⟩) w'
  have CL : Hid (∀ w', Calls Tryz.prog 17 #[pv v h l b] w' fun e w1 => e = .returned (av v eh el) ∧ Below w'.heap.size w' w1) := fun w' => last_ok hp hk he w'
  have C1 : Hid (∀ w', Calls Tryz.prog 15 #[av v eh el, av v ah al] w' fun e w1 => ∃ m : Int, e = .returned (.int .i64 m) ∧ Hid (m = cmpI (lastN v n b : Nat) (a : Nat)) ∧ Below w'.heap.size w' w1) := fun w' => cmp_one he ha w'
  have C2 : Hid (∀ w', Calls Tryz.prog 15 #[av v zh zl, av v h l] w' fun e w1 => ∃ m : Int, e = .returned (.int .i64 m) ∧ Hid (m = cmpI (z : Nat) (n : Nat)) ∧ Below w'.heap.size w' w1) := fun w' => cmp_one hz hp w'
  have C3 : Hid (∀ w', Calls Tryz.prog 15 #[av v ah al, av v h l] w' fun e w1 => ∃ m : Int, e = .returned (.int .i64 m) ∧ Hid (m = cmpI (a : Nat) (n : Nat)) ∧ Below w'.heap.size w' w1) := fun w' => cmp_one ha hp w'
  have C4 : Hid (∀ w', Calls Tryz.prog 15 #[av v eh el, av v zh zl] w' fun e w1 => ∃ m : Int, e = .returned (.int .i64 m) ∧ Hid (m = cmpI (lastN v n b : Nat) (z : Nat)) ∧ Below w'.heap.size w' w1) := fun w' => cmp_one he hz w'
  have HC : Hid ((¬ lastN v n b < a) ∧ (¬ z < n) ∧ a ≤ n ∧ lastN v n b ≤ z) := by
    have p := pow_pos2 (behindP v b)
    show _ ∧ _
    unfold lastN at *
    omega
  have R0 := BS.of (K3.start w v h l b ah al zh zl)
  obtain ⟨w0, hw0⟩ : ∃ w0, w0 = ((w.alloc (.cells #[.bool v, .int .u64 h, .int .u64 l, .int .i64 b] 28)).alloc (.cells #[.bool v, .int .u64 ah, .int .u64 al] 26)).alloc (.cells #[.bool v, .int .u64 zh, .int .u64 zl] 26) := ⟨_, rfl⟩
  rw [← hw0] at R0
  have hs0 := R0.2.2.2.1.lt
  clear hp ha hz he hk l1 l2 h1 h2 hW
  go_enter Tryz.func85, Tryz.ntmps85
  go_upto_region 1 with fail
  rw [← hw0]
  clear hw0
  go_cut [9, 10] (fun p q wc => ∃ X Y : Nat, p = .pointer (some ⟨X, 0, none⟩) ∧ q = .pointer (some ⟨Y, 0, none⟩) ∧ Blk wc X #[.bool v, .int .u64 h, .int .u64 l] 26 ∧ Blk wc Y #[.bool v, .int .u64 eh, .int .u64 el] 26 ∧ BS w v h l b ah al zh zl wc)
  case first =>
    refine wp_region_held_drew (S := (BS w v h l b ah al zh zl)) (by kernel_rfl) ?hS5001 (fun hHeld => ?rest5001)
    case hS5001 => (first | with_reducible exact R0.drew | with_reducible exact (R0.alloc _).drew | with_reducible exact ((R0.alloc _).alloc _).drew | with_reducible exact hHeld.below hb4 | with_reducible exact hHeld.below hb5 | with_reducible exact hHeld.alloc _ | with_reducible exact hHeld.far (by omega) _ _ _ | with_reducible exact K5.alloc _ | with_reducible exact (K5.alloc _).alloc _ | with_reducible exact (K5.alloc _).far (by omega) _ _ _ | with_reducible exact (K5.far (by omega) _ _ _).alloc _ | with_reducible exact ((K5.alloc _).alloc _).far (by omega) _ _ _)
    refine wpAnyH_take (i := 0) (oi := _) (v := ?v5002) (List.getElem?_toArray.trans rfl) (by kernel_rfl) (by kernel_rfl) (by kernel_rfl) (fun _ _ _ h => h) (Or.inl ⟨by rfl, ?hy5002⟩) (by assumption) ?rest5002
    case hy5002 => (intro wq hSw; (try simp only [Two, BS] at hSw); go_simp; try with_reducible rfl)
    try simp only [Act.put, List.setIfInBounds_toArray, List.set_cons_zero, List.set_cons_succ]
    refine wpAnyH_take (i := 2) (oi := _) (v := ?v5003) (List.getElem?_toArray.trans rfl) (by kernel_rfl) (by kernel_rfl) (by kernel_rfl) (fun _ _ _ h => h) (Or.inl ⟨by rfl, ?hy5003⟩) (by assumption) ?rest5003
    case hy5003 => (intro wq hSw; (try simp only [Two, BS] at hSw); go_simp; try with_reducible rfl)
    try simp only [Act.put, List.setIfInBounds_toArray, List.set_cons_zero, List.set_cons_succ]
    refine wpAnyH_ready (rs := [1, 4, 5]) (by kernel_rfl) (by simp) ?rdy5004
    refine (AllReadyH.cons (List.getElem?_toArray.trans rfl) (fun K hK => ?stp5004_1) (AllReadyH.cons (List.getElem?_toArray.trans rfl) (fun K hK => ?stp5004_4) (AllReadyH.cons (List.getElem?_toArray.trans rfl) (fun K hK => ?stp5004_5) AllReadyH.nil)))
    case stp5004_1 =>
      go_simp
      go_wp2_with fail
      (refine (CF.out _).mono ?_; rintro e w4 ⟨rfl, hb4⟩; have s4 : w0.heap.size ≤ w4.heap.size := (by have := hb4.size; first | exact this | (simp at this; omega)); first | (have U4 : Blk w4 w0.heap.size #[.bool false, .int .u64 0, .int .u64 0] 26 := Blk.via hb4 ((Blk.new w0 #[.bool false, .int .u64 0, .int .u64 0] 26).alloc (.cells #[.bool false, .int .u64 0, .int .u64 0] 26)) rfl; have V4 : Blk w4 (w0.heap.size + 1) #[.bool false, .int .u64 0, .int .u64 0] 26 := Blk.via hb4 (Blk.newB w0 (.cells #[.bool false, .int .u64 0, .int .u64 0] 26) #[.bool false, .int .u64 0, .int .u64 0] 26) rfl; obtain ⟨u0, u1, u2, u3, u4, u5, u6⟩ := U4.three; obtain ⟨y0, y1, y2, y3, y4, y5, y6⟩ := V4.three) | (have U4 : Blk w4 w0.heap.size #[.bool false, .int .u64 0, .int .u64 0] 26 := Blk.via hb4 (Blk.new w0 #[.bool false, .int .u64 0, .int .u64 0] 26) rfl; obtain ⟨u0, u1, u2, u3, u4, u5, u6⟩ := U4.three) | skip)
      go_wp2_with fail
      refine hK.out _ _ ?hSn5005 (fun hHeld2 => ?rest5005)
      case hSn5005 => (first | with_reducible exact R0.drew | with_reducible exact (R0.alloc _).drew | with_reducible exact ((R0.alloc _).alloc _).drew | with_reducible exact hHeld.below hb4 | with_reducible exact hHeld.below hb5 | with_reducible exact hHeld.alloc _ | with_reducible exact hHeld.far (by omega) _ _ _ | with_reducible exact K5.alloc _ | with_reducible exact (K5.alloc _).alloc _ | with_reducible exact (K5.alloc _).far (by omega) _ _ _ | with_reducible exact (K5.far (by omega) _ _ _).alloc _ | with_reducible exact ((K5.alloc _).alloc _).far (by omega) _ _ _)
      clear hK K hHeld
      have hHeld := hHeld2
      clear hHeld2
      try simp only [Act.put, List.setIfInBounds_toArray, List.set_cons_zero, List.set_cons_succ]
      refine wpAnyH_ready (rs := [3, 4, 5]) (by kernel_rfl) (by simp) ?rdy5006
      refine (AllReadyH.cons (List.getElem?_toArray.trans rfl) (fun K hK => ?stp5006_3) (AllReadyH.cons (List.getElem?_toArray.trans rfl) (fun K hK => ?stp5006_4) (AllReadyH.cons (List.getElem?_toArray.trans rfl) (fun K hK => ?stp5006_5) AllReadyH.nil)))
      case stp5006_3 =>
        go_simp
        go_wp2_with fail
        (refine (CL.out _).mono ?_; rintro e w5 ⟨rfl, hb5⟩; have K5 := hHeld.below hb5; have s5 : w4.heap.size ≤ w5.heap.size := (by have := hb5.size; first | exact this | (simp at this; omega)); (first | (have U5 := U4.below hb5; obtain ⟨a0, a1, a2, a3, a4, a5, a6⟩ := U5.three) | (have U5 := Blk.via hb5 (U4.alloc (.cells #[.bool false, .int .u64 0, .int .u64 0] 26)) rfl; obtain ⟨a0, a1, a2, a3, a4, a5, a6⟩ := U5.three) | (have U5 := Blk.via hb5 ((U4.alloc (.cells #[.bool false, .int .u64 0, .int .u64 0] 26)).alloc (.cells #[.bool false, .int .u64 0, .int .u64 0] 26)) rfl; obtain ⟨a0, a1, a2, a3, a4, a5, a6⟩ := U5.three) | skip); (first | (have V5 := V4.below hb5; obtain ⟨b0, b1, b2, b3, b4, b5, b6⟩ := V5.three) | (have V5 := Blk.via hb5 (V4.alloc (.cells #[.bool false, .int .u64 0, .int .u64 0] 26)) rfl; obtain ⟨b0, b1, b2, b3, b4, b5, b6⟩ := V5.three) | (have V5 := Blk.via hb5 ((V4.alloc (.cells #[.bool false, .int .u64 0, .int .u64 0] 26)).alloc (.cells #[.bool false, .int .u64 0, .int .u64 0] 26)) rfl; obtain ⟨b0, b1, b2, b3, b4, b5, b6⟩ := V5.three) | skip); first | (have X5 : Blk w5 w4.heap.size #[.bool false, .int .u64 0, .int .u64 0] 26 := Blk.via hb5 ((Blk.new w4 #[.bool false, .int .u64 0, .int .u64 0] 26).alloc (.cells #[.bool false, .int .u64 0, .int .u64 0] 26)) rfl; have Y5 : Blk w5 (w4.heap.size + 1) #[.bool false, .int .u64 0, .int .u64 0] 26 := Blk.via hb5 (Blk.newB w4 (.cells #[.bool false, .int .u64 0, .int .u64 0] 26) #[.bool false, .int .u64 0, .int .u64 0] 26) rfl; obtain ⟨p0, p1, p2, p3, p4, p5, p6⟩ := X5.three; obtain ⟨q0, q1, q2, q3, q4, q5, q6⟩ := Y5.three) | (have X5 : Blk w5 w4.heap.size #[.bool false, .int .u64 0, .int .u64 0] 26 := Blk.via hb5 (Blk.new w4 #[.bool false, .int .u64 0, .int .u64 0] 26) rfl; obtain ⟨p0, p1, p2, p3, p4, p5, p6⟩ := X5.three) | skip)
        go_wp2_with fail
        refine hK.out _ _ ?hSn5007 (fun hHeld2 => ?rest5007)
        case hSn5007 => (first | with_reducible exact R0.drew | with_reducible exact (R0.alloc _).drew | with_reducible exact ((R0.alloc _).alloc _).drew | with_reducible exact hHeld.below hb4 | with_reducible exact hHeld.below hb5 | with_reducible exact hHeld.alloc _ | with_reducible exact hHeld.far (by omega) _ _ _ | with_reducible exact K5.alloc _ | with_reducible exact (K5.alloc _).alloc _ | with_reducible exact (K5.alloc _).far (by omega) _ _ _ | with_reducible exact (K5.far (by omega) _ _ _).alloc _ | with_reducible exact ((K5.alloc _).alloc _).far (by omega) _ _ _)
        clear hK K hHeld
        have hHeld := hHeld2
        clear hHeld2
        try simp only [Act.put, List.setIfInBounds_toArray, List.set_cons_zero, List.set_cons_succ]
        refine wpAnyH_ready (rs := [4, 5]) (by kernel_rfl) (by simp) ?rdy5008
        refine (AllReadyH.cons (List.getElem?_toArray.trans rfl) (fun K hK => ?stp5008_4) (AllReadyH.cons (List.getElem?_toArray.trans rfl) (fun K hK => ?stp5008_5) AllReadyH.nil))
        case stp5008_4 =>
          go_simp
          go_wp2_with fail
          refine hK.out _ _ ?hSn5009 (fun hHeld2 => ?rest5009)
          case hSn5009 => (first | with_reducible exact R0.drew | with_reducible exact (R0.alloc _).drew | with_reducible exact ((R0.alloc _).alloc _).drew | with_reducible exact hHeld.below hb4 | with_reducible exact hHeld.below hb5 | with_reducible exact hHeld.alloc _ | with_reducible exact hHeld.far (by omega) _ _ _ | with_reducible exact K5.alloc _ | with_reducible exact (K5.alloc _).alloc _ | with_reducible exact (K5.alloc _).far (by omega) _ _ _ | with_reducible exact (K5.far (by omega) _ _ _).alloc _ | with_reducible exact ((K5.alloc _).alloc _).far (by omega) _ _ _)
          clear hK K hHeld
          have hHeld := hHeld2
          clear hHeld2
          try simp only [Act.put, List.setIfInBounds_toArray, List.set_cons_zero, List.set_cons_succ]
          refine wpAnyH_ready (rs := [5]) (by kernel_rfl) (by simp) ?rdy5010
          refine (AllReadyH.cons (List.getElem?_toArray.trans rfl) (fun K hK => ?stp5010_5) AllReadyH.nil)
          case stp5010_5 =>
            go_simp
            go_wp2_with fail
            refine hK.out _ _ ?hSn5011 (fun hHeld2 => ?rest5011)
            case hSn5011 => (first | with_reducible exact R0.drew | with_reducible exact (R0.alloc _).drew | with_reducible exact ((R0.alloc _).alloc _).drew | with_reducible exact hHeld.below hb4 | with_reducible exact hHeld.below hb5 | with_reducible exact hHeld.alloc _ | with_reducible exact hHeld.far (by omega) _ _ _ | with_reducible exact K5.alloc _ | with_reducible exact (K5.alloc _).alloc _ | with_reducible exact (K5.alloc _).far (by omega) _ _ _ | with_reducible exact (K5.far (by omega) _ _ _).alloc _ | with_reducible exact ((K5.alloc _).alloc _).far (by omega) _ _ _)
            clear hK K hHeld
            have hHeld := hHeld2
            clear hHeld2
            try simp only [Act.put, List.setIfInBounds_toArray, List.set_cons_zero, List.set_cons_succ]
            refine wpAnyH_ready (rs := [6]) (by kernel_rfl) (by simp) ?rdy5012
            refine (AllReadyH.cons (List.getElem?_toArray.trans rfl) (fun K hK => ?stp5012_6) AllReadyH.nil)
            case stp5012_6 =>
              go_simp
              go_wp2_with fail
              refine hK.out _ _ ?hSn5013 (fun hHeld2 => ?rest5013)
              case hSn5013 => (first | with_reducible exact R0.drew | with_reducible exact (R0.alloc _).drew | with_reducible exact ((R0.alloc _).alloc _).drew | with_reducible exact hHeld.below hb4 | with_reducible exact hHeld.below hb5 | with_reducible exact hHeld.alloc _ | with_reducible exact hHeld.far (by omega) _ _ _ | with_reducible exact K5.alloc _ | with_reducible exact (K5.alloc _).alloc _ | with_reducible exact (K5.alloc _).far (by omega) _ _ _ | with_reducible exact (K5.far (by omega) _ _ _).alloc _ | with_reducible exact ((K5.alloc _).alloc _).far (by omega) _ _ _)
              clear hK K hHeld
              have hHeld := hHeld2
              clear hHeld2
              try simp only [Act.put, List.setIfInBounds_toArray, List.set_cons_zero, List.set_cons_succ]
              refine wpAnyH_ready (rs := [7]) (by kernel_rfl) (by simp) ?rdy5014
              refine (AllReadyH.cons (List.getElem?_toArray.trans rfl) (fun K hK => ?stp5014_7) AllReadyH.nil)
              case stp5014_7 =>
                go_simp
                go_wp2_with fail
                refine hK.out _ _ ?hSn5015 (fun hHeld2 => ?rest5015)
                case hSn5015 => (first | with_reducible exact R0.drew | with_reducible exact (R0.alloc _).drew | with_reducible exact ((R0.alloc _).alloc _).drew | with_reducible exact hHeld.below hb4 | with_reducible exact hHeld.below hb5 | with_reducible exact hHeld.alloc _ | with_reducible exact hHeld.far (by omega) _ _ _ | with_reducible exact K5.alloc _ | with_reducible exact (K5.alloc _).alloc _ | with_reducible exact (K5.alloc _).far (by omega) _ _ _ | with_reducible exact (K5.far (by omega) _ _ _).alloc _ | with_reducible exact ((K5.alloc _).alloc _).far (by omega) _ _ _)
                clear hK K hHeld
                have hHeld := hHeld2
                clear hHeld2
                try simp only [Act.put, List.setIfInBounds_toArray, List.set_cons_zero, List.set_cons_succ]
                refine wpAnyH_done (by kernel_rfl) ?_ _
                go_wp2_with fail
                go_meet
                case rel => exact ⟨_, _, rfl, rfl, (by (repeat (first | with_reducible exact Blk.new _ _ _ | with_reducible exact Blk.newB _ _ _ _ | with_reducible exact Blk.news3 _ _ _ _ _ _ _ _ _ | with_reducible exact U5 | with_reducible exact V5 | with_reducible exact X5 | with_reducible exact Y5 | with_reducible refine Blk.put3 (x := .bool false) (y := .int .u64 0) (z := .int .u64 0) ?_ _ _ _ | with_reducible refine Blk.far3 ?_ (by omega) _ _ _ | with_reducible refine Blk.alloc ?_ _))), (by (repeat (first | with_reducible exact Blk.new _ _ _ | with_reducible exact Blk.newB _ _ _ _ | with_reducible exact Blk.news3 _ _ _ _ _ _ _ _ _ | with_reducible exact U5 | with_reducible exact V5 | with_reducible exact X5 | with_reducible exact Y5 | with_reducible refine Blk.put3 (x := .bool false) (y := .int .u64 0) (z := .int .u64 0) ?_ _ _ _ | with_reducible refine Blk.far3 ?_ (by omega) _ _ _ | with_reducible refine Blk.alloc ?_ _))), hHeld⟩
        case stp5008_5 =>
          go_simp
          go_wp2_with fail
          refine hK.out _ _ ?hSn5016 (fun hHeld2 => ?rest5016)
          case hSn5016 => (first | with_reducible exact R0.drew | with_reducible exact (R0.alloc _).drew | with_reducible exact ((R0.alloc _).alloc _).drew | with_reducible exact hHeld.below hb4 | with_reducible exact hHeld.below hb5 | with_reducible exact hHeld.alloc _ | with_reducible exact hHeld.far (by omega) _ _ _ | with_reducible exact K5.alloc _ | with_reducible exact (K5.alloc _).alloc _ | with_reducible exact (K5.alloc _).far (by omega) _ _ _ | with_reducible exact (K5.far (by omega) _ _ _).alloc _ | with_reducible exact ((K5.alloc _).alloc _).far (by omega) _ _ _)
          clear hK K hHeld
          have hHeld := hHeld2
          clear hHeld2
          try simp only [Act.put, List.setIfInBounds_toArray, List.set_cons_zero, List.set_cons_succ]
          refine wpAnyH_ready (rs := [4]) (by kernel_rfl) (by simp) ?rdy5017
          refine (AllReadyH.cons (List.getElem?_toArray.trans rfl) (fun K hK => ?stp5017_4) AllReadyH.nil)
          case stp5017_4 =>
            go_simp
            go_wp2_with fail
            refine hK.out _ _ ?hSn5018 (fun hHeld2 => ?rest5018)
            case hSn5018 => (first | with_reducible exact R0.drew | with_reducible exact (R0.alloc _).drew | with_reducible exact ((R0.alloc _).alloc _).drew | with_reducible exact hHeld.below hb4 | with_reducible exact hHeld.below hb5 | with_reducible exact hHeld.alloc _ | with_reducible exact hHeld.far (by omega) _ _ _ | with_reducible exact K5.alloc _ | with_reducible exact (K5.alloc _).alloc _ | with_reducible exact (K5.alloc _).far (by omega) _ _ _ | with_reducible exact (K5.far (by omega) _ _ _).alloc _ | with_reducible exact ((K5.alloc _).alloc _).far (by omega) _ _ _)
            clear hK K hHeld
            have hHeld := hHeld2
            clear hHeld2
            try simp only [Act.put, List.setIfInBounds_toArray, List.set_cons_zero, List.set_cons_succ]
            refine wpAnyH_ready (rs := [6]) (by kernel_rfl) (by simp) ?rdy5019
            refine (AllReadyH.cons (List.getElem?_toArray.trans rfl) (fun K hK => ?stp5019_6) AllReadyH.nil)
            case stp5019_6 =>
              go_simp
              go_wp2_with fail
              refine hK.out _ _ ?hSn5020 (fun hHeld2 => ?rest5020)
              case hSn5020 => (first | with_reducible exact R0.drew | with_reducible exact (R0.alloc _).drew | with_reducible exact ((R0.alloc _).alloc _).drew | with_reducible exact hHeld.below hb4 | with_reducible exact hHeld.below hb5 | with_reducible exact hHeld.alloc _ | with_reducible exact hHeld.far (by omega) _ _ _ | with_reducible exact K5.alloc _ | with_reducible exact (K5.alloc _).alloc _ | with_reducible exact (K5.alloc _).far (by omega) _ _ _ | with_reducible exact (K5.far (by omega) _ _ _).alloc _ | with_reducible exact ((K5.alloc _).alloc _).far (by omega) _ _ _)
              clear hK K hHeld
              have hHeld := hHeld2
              clear hHeld2
              try simp only [Act.put, List.setIfInBounds_toArray, List.set_cons_zero, List.set_cons_succ]
              refine wpAnyH_ready (rs := [7]) (by kernel_rfl) (by simp) ?rdy5021
              refine (AllReadyH.cons (List.getElem?_toArray.trans rfl) (fun K hK => ?stp5021_7) AllReadyH.nil)
              case stp5021_7 =>
                go_simp
                go_wp2_with fail
                refine hK.out _ _ ?hSn5022 (fun hHeld2 => ?rest5022)
                case hSn5022 => (first | with_reducible exact R0.drew | with_reducible exact (R0.alloc _).drew | with_reducible exact ((R0.alloc _).alloc _).drew | with_reducible exact hHeld.below hb4 | with_reducible exact hHeld.below hb5 | with_reducible exact hHeld.alloc _ | with_reducible exact hHeld.far (by omega) _ _ _ | with_reducible exact K5.alloc _ | with_reducible exact (K5.alloc _).alloc _ | with_reducible exact (K5.alloc _).far (by omega) _ _ _ | with_reducible exact (K5.far (by omega) _ _ _).alloc _ | with_reducible exact ((K5.alloc _).alloc _).far (by omega) _ _ _)
                clear hK K hHeld
                have hHeld := hHeld2
                clear hHeld2
                try simp only [Act.put, List.setIfInBounds_toArray, List.set_cons_zero, List.set_cons_succ]
                refine wpAnyH_done (by kernel_rfl) ?_ _
                go_wp2_with fail
                go_meet
                case rel => exact ⟨_, _, rfl, rfl, (by (repeat (first | with_reducible exact Blk.new _ _ _ | with_reducible exact Blk.newB _ _ _ _ | with_reducible exact Blk.news3 _ _ _ _ _ _ _ _ _ | with_reducible exact U5 | with_reducible exact V5 | with_reducible exact X5 | with_reducible exact Y5 | with_reducible refine Blk.put3 (x := .bool false) (y := .int .u64 0) (z := .int .u64 0) ?_ _ _ _ | with_reducible refine Blk.far3 ?_ (by omega) _ _ _ | with_reducible refine Blk.alloc ?_ _))), (by (repeat (first | with_reducible exact Blk.new _ _ _ | with_reducible exact Blk.newB _ _ _ _ | with_reducible exact Blk.news3 _ _ _ _ _ _ _ _ _ | with_reducible exact U5 | with_reducible exact V5 | with_reducible exact X5 | with_reducible exact Y5 | with_reducible refine Blk.put3 (x := .bool false) (y := .int .u64 0) (z := .int .u64 0) ?_ _ _ _ | with_reducible refine Blk.far3 ?_ (by omega) _ _ _ | with_reducible refine Blk.alloc ?_ _))), hHeld⟩
      case stp5006_4 =>
        go_simp
        go_wp2_with fail
        refine hK.out _ _ ?hSn5023 (fun hHeld2 => ?rest5023)
        case hSn5023 => (first | with_reducible exact R0.drew | with_reducible exact (R0.alloc _).drew | with_reducible exact ((R0.alloc _).alloc _).drew | with_reducible exact hHeld.below hb4 | with_reducible exact hHeld.below hb5 | with_reducible exact hHeld.alloc _ | with_reducible exact hHeld.far (by omega) _ _ _ | with_reducible exact K5.alloc _ | with_reducible exact (K5.alloc _).alloc _ | with_reducible exact (K5.alloc _).far (by omega) _ _ _ | with_reducible exact (K5.far (by omega) _ _ _).alloc _ | with_reducible exact ((K5.alloc _).alloc _).far (by omega) _ _ _)
        clear hK K hHeld
        have hHeld := hHeld2
        clear hHeld2
        try simp only [Act.put, List.setIfInBounds_toArray, List.set_cons_zero, List.set_cons_succ]
        refine wpAnyH_ready (rs := [3, 5]) (by kernel_rfl) (by simp) ?rdy5024
        refine (AllReadyH.cons (List.getElem?_toArray.trans rfl) (fun K hK => ?stp5024_3) (AllReadyH.cons (List.getElem?_toArray.trans rfl) (fun K hK => ?stp5024_5) AllReadyH.nil))
        case stp5024_3 =>
          go_simp
          go_wp2_with fail
          (refine (CL.out _).mono ?_; rintro e w5 ⟨rfl, hb5⟩; have K5 := hHeld.below hb5; have s5 : w4.heap.size ≤ w5.heap.size := (by have := hb5.size; first | exact this | (simp at this; omega)); (first | (have U5 := U4.below hb5; obtain ⟨a0, a1, a2, a3, a4, a5, a6⟩ := U5.three) | (have U5 := Blk.via hb5 (U4.alloc (.cells #[.bool false, .int .u64 0, .int .u64 0] 26)) rfl; obtain ⟨a0, a1, a2, a3, a4, a5, a6⟩ := U5.three) | (have U5 := Blk.via hb5 ((U4.alloc (.cells #[.bool false, .int .u64 0, .int .u64 0] 26)).alloc (.cells #[.bool false, .int .u64 0, .int .u64 0] 26)) rfl; obtain ⟨a0, a1, a2, a3, a4, a5, a6⟩ := U5.three) | skip); (first | (have V5 := V4.below hb5; obtain ⟨b0, b1, b2, b3, b4, b5, b6⟩ := V5.three) | (have V5 := Blk.via hb5 (V4.alloc (.cells #[.bool false, .int .u64 0, .int .u64 0] 26)) rfl; obtain ⟨b0, b1, b2, b3, b4, b5, b6⟩ := V5.three) | (have V5 := Blk.via hb5 ((V4.alloc (.cells #[.bool false, .int .u64 0, .int .u64 0] 26)).alloc (.cells #[.bool false, .int .u64 0, .int .u64 0] 26)) rfl; obtain ⟨b0, b1, b2, b3, b4, b5, b6⟩ := V5.three) | skip); first | (have X5 : Blk w5 w4.heap.size #[.bool false, .int .u64 0, .int .u64 0] 26 := Blk.via hb5 ((Blk.new w4 #[.bool false, .int .u64 0, .int .u64 0] 26).alloc (.cells #[.bool false, .int .u64 0, .int .u64 0] 26)) rfl; have Y5 : Blk w5 (w4.heap.size + 1) #[.bool false, .int .u64 0, .int .u64 0] 26 := Blk.via hb5 (Blk.newB w4 (.cells #[.bool false, .int .u64 0, .int .u64 0] 26) #[.bool false, .int .u64 0, .int .u64 0] 26) rfl; obtain ⟨p0, p1, p2, p3, p4, p5, p6⟩ := X5.three; obtain ⟨q0, q1, q2, q3, q4, q5, q6⟩ := Y5.three) | (have X5 : Blk w5 w4.heap.size #[.bool false, .int .u64 0, .int .u64 0] 26 := Blk.via hb5 (Blk.new w4 #[.bool false, .int .u64 0, .int .u64 0] 26) rfl; obtain ⟨p0, p1, p2, p3, p4, p5, p6⟩ := X5.three) | skip)
          go_wp2_with fail
          refine hK.out _ _ ?hSn5025 (fun hHeld2 => ?rest5025)
          case hSn5025 => (first | with_reducible exact R0.drew | with_reducible exact (R0.alloc _).drew | with_reducible exact ((R0.alloc _).alloc _).drew | with_reducible exact hHeld.below hb4 | with_reducible exact hHeld.below hb5 | with_reducible exact hHeld.alloc _ | with_reducible exact hHeld.far (by omega) _ _ _ | with_reducible exact K5.alloc _ | with_reducible exact (K5.alloc _).alloc _ | with_reducible exact (K5.alloc _).far (by omega) _ _ _ | with_reducible exact (K5.far (by omega) _ _ _).alloc _ | with_reducible exact ((K5.alloc _).alloc _).far (by omega) _ _ _)
          clear hK K hHeld
          have hHeld := hHeld2
          clear hHeld2
          try simp only [Act.put, List.setIfInBounds_toArray, List.set_cons_zero, List.set_cons_succ]
          refine wpAnyH_ready (rs := [5]) (by kernel_rfl) (by simp) ?rdy5026
          refine (AllReadyH.cons (List.getElem?_toArray.trans rfl) (fun K hK => ?stp5026_5) AllReadyH.nil)
          case stp5026_5 =>
            go_simp
            go_wp2_with fail
            refine hK.out _ _ ?hSn5027 (fun hHeld2 => ?rest5027)
            case hSn5027 => (first | with_reducible exact R0.drew | with_reducible exact (R0.alloc _).drew | with_reducible exact ((R0.alloc _).alloc _).drew | with_reducible exact hHeld.below hb4 | with_reducible exact hHeld.below hb5 | with_reducible exact hHeld.alloc _ | with_reducible exact hHeld.far (by omega) _ _ _ | with_reducible exact K5.alloc _ | with_reducible exact (K5.alloc _).alloc _ | with_reducible exact (K5.alloc _).far (by omega) _ _ _ | with_reducible exact (K5.far (by omega) _ _ _).alloc _ | with_reducible exact ((K5.alloc _).alloc _).far (by omega) _ _ _)
            clear hK K hHeld
            have hHeld := hHeld2
            clear hHeld2
            try simp only [Act.put, List.setIfInBounds_toArray, List.set_cons_zero, List.set_cons_succ]
            refine wpAnyH_ready (rs := [6]) (by kernel_rfl) (by simp) ?rdy5028
            refine (AllReadyH.cons (List.getElem?_toArray.trans rfl) (fun K hK => ?stp5028_6) AllReadyH.nil)
            case stp5028_6 =>
              go_simp
              go_wp2_with fail
              refine hK.out _ _ ?hSn5029 (fun hHeld2 => ?rest5029)
              case hSn5029 => (first | with_reducible exact R0.drew | with_reducible exact (R0.alloc _).drew | with_reducible exact ((R0.alloc _).alloc _).drew | with_reducible exact hHeld.below hb4 | with_reducible exact hHeld.below hb5 | with_reducible exact hHeld.alloc _ | with_reducible exact hHeld.far (by omega) _ _ _ | with_reducible exact K5.alloc _ | with_reducible exact (K5.alloc _).alloc _ | with_reducible exact (K5.alloc _).far (by omega) _ _ _ | with_reducible exact (K5.far (by omega) _ _ _).alloc _ | with_reducible exact ((K5.alloc _).alloc _).far (by omega) _ _ _)
              clear hK K hHeld
              have hHeld := hHeld2
              clear hHeld2
              try simp only [Act.put, List.setIfInBounds_toArray, List.set_cons_zero, List.set_cons_succ]
              refine wpAnyH_ready (rs := [7]) (by kernel_rfl) (by simp) ?rdy5030
              refine (AllReadyH.cons (List.getElem?_toArray.trans rfl) (fun K hK => ?stp5030_7) AllReadyH.nil)
              case stp5030_7 =>
                go_simp
                go_wp2_with fail
                refine hK.out _ _ ?hSn5031 (fun hHeld2 => ?rest5031)
                case hSn5031 => (first | with_reducible exact R0.drew | with_reducible exact (R0.alloc _).drew | with_reducible exact ((R0.alloc _).alloc _).drew | with_reducible exact hHeld.below hb4 | with_reducible exact hHeld.below hb5 | with_reducible exact hHeld.alloc _ | with_reducible exact hHeld.far (by omega) _ _ _ | with_reducible exact K5.alloc _ | with_reducible exact (K5.alloc _).alloc _ | with_reducible exact (K5.alloc _).far (by omega) _ _ _ | with_reducible exact (K5.far (by omega) _ _ _).alloc _ | with_reducible exact ((K5.alloc _).alloc _).far (by omega) _ _ _)
                clear hK K hHeld
                have hHeld := hHeld2
                clear hHeld2
                try simp only [Act.put, List.setIfInBounds_toArray, List.set_cons_zero, List.set_cons_succ]
                refine wpAnyH_done (by kernel_rfl) ?_ _
                go_wp2_with fail
                go_meet
                case rel => exact ⟨_, _, rfl, rfl, (by (repeat (first | with_reducible exact Blk.new _ _ _ | with_reducible exact Blk.newB _ _ _ _ | with_reducible exact Blk.news3 _ _ _ _ _ _ _ _ _ | with_reducible exact U5 | with_reducible exact V5 | with_reducible exact X5 | with_reducible exact Y5 | with_reducible refine Blk.put3 (x := .bool false) (y := .int .u64 0) (z := .int .u64 0) ?_ _ _ _ | with_reducible refine Blk.far3 ?_ (by omega) _ _ _ | with_reducible refine Blk.alloc ?_ _))), (by (repeat (first | with_reducible exact Blk.new _ _ _ | with_reducible exact Blk.newB _ _ _ _ | with_reducible exact Blk.news3 _ _ _ _ _ _ _ _ _ | with_reducible exact U5 | with_reducible exact V5 | with_reducible exact X5 | with_reducible exact Y5 | with_reducible refine Blk.put3 (x := .bool false) (y := .int .u64 0) (z := .int .u64 0) ?_ _ _ _ | with_reducible refine Blk.far3 ?_ (by omega) _ _ _ | with_reducible refine Blk.alloc ?_ _))), hHeld⟩
        case stp5024_5 =>
          go_simp
          go_wp2_with fail
          refine hK.out _ _ ?hSn5032 (fun hHeld2 => ?rest5032)
          case hSn5032 => (first | with_reducible exact R0.drew | with_reducible exact (R0.alloc _).drew | with_reducible exact ((R0.alloc _).alloc _).drew | with_reducible exact hHeld.below hb4 | with_reducible exact hHeld.below hb5 | with_reducible exact hHeld.alloc _ | with_reducible exact hHeld.far (by omega) _ _ _ | with_reducible exact K5.alloc _ | with_reducible exact (K5.alloc _).alloc _ | with_reducible exact (K5.alloc _).far (by omega) _ _ _ | with_reducible exact (K5.far (by omega) _ _ _).alloc _ | with_reducible exact ((K5.alloc _).alloc _).far (by omega) _ _ _)
          clear hK K hHeld
          have hHeld := hHeld2
          clear hHeld2
          try simp only [Act.put, List.setIfInBounds_toArray, List.set_cons_zero, List.set_cons_succ]
          refine wpAnyH_ready (rs := [3]) (by kernel_rfl) (by simp) ?rdy5033
          refine (AllReadyH.cons (List.getElem?_toArray.trans rfl) (fun K hK => ?stp5033_3) AllReadyH.nil)
          case stp5033_3 =>
            go_simp
            go_wp2_with fail
            (refine (CL.out _).mono ?_; rintro e w5 ⟨rfl, hb5⟩; have K5 := hHeld.below hb5; have s5 : w4.heap.size ≤ w5.heap.size := (by have := hb5.size; first | exact this | (simp at this; omega)); (first | (have U5 := U4.below hb5; obtain ⟨a0, a1, a2, a3, a4, a5, a6⟩ := U5.three) | (have U5 := Blk.via hb5 (U4.alloc (.cells #[.bool false, .int .u64 0, .int .u64 0] 26)) rfl; obtain ⟨a0, a1, a2, a3, a4, a5, a6⟩ := U5.three) | (have U5 := Blk.via hb5 ((U4.alloc (.cells #[.bool false, .int .u64 0, .int .u64 0] 26)).alloc (.cells #[.bool false, .int .u64 0, .int .u64 0] 26)) rfl; obtain ⟨a0, a1, a2, a3, a4, a5, a6⟩ := U5.three) | skip); (first | (have V5 := V4.below hb5; obtain ⟨b0, b1, b2, b3, b4, b5, b6⟩ := V5.three) | (have V5 := Blk.via hb5 (V4.alloc (.cells #[.bool false, .int .u64 0, .int .u64 0] 26)) rfl; obtain ⟨b0, b1, b2, b3, b4, b5, b6⟩ := V5.three) | (have V5 := Blk.via hb5 ((V4.alloc (.cells #[.bool false, .int .u64 0, .int .u64 0] 26)).alloc (.cells #[.bool false, .int .u64 0, .int .u64 0] 26)) rfl; obtain ⟨b0, b1, b2, b3, b4, b5, b6⟩ := V5.three) | skip); first | (have X5 : Blk w5 w4.heap.size #[.bool false, .int .u64 0, .int .u64 0] 26 := Blk.via hb5 ((Blk.new w4 #[.bool false, .int .u64 0, .int .u64 0] 26).alloc (.cells #[.bool false, .int .u64 0, .int .u64 0] 26)) rfl; have Y5 : Blk w5 (w4.heap.size + 1) #[.bool false, .int .u64 0, .int .u64 0] 26 := Blk.via hb5 (Blk.newB w4 (.cells #[.bool false, .int .u64 0, .int .u64 0] 26) #[.bool false, .int .u64 0, .int .u64 0] 26) rfl; obtain ⟨p0, p1, p2, p3, p4, p5, p6⟩ := X5.three; obtain ⟨q0, q1, q2, q3, q4, q5, q6⟩ := Y5.three) | (have X5 : Blk w5 w4.heap.size #[.bool false, .int .u64 0, .int .u64 0] 26 := Blk.via hb5 (Blk.new w4 #[.bool false, .int .u64 0, .int .u64 0] 26) rfl; obtain ⟨p0, p1, p2, p3, p4, p5, p6⟩ := X5.three) | skip)
            go_wp2_with fail
            refine hK.out _ _ ?hSn5034 (fun hHeld2 => ?rest5034)
            case hSn5034 => (first | with_reducible exact R0.drew | with_reducible exact (R0.alloc _).drew | with_reducible exact ((R0.alloc _).alloc _).drew | with_reducible exact hHeld.below hb4 | with_reducible exact hHeld.below hb5 | with_reducible exact hHeld.alloc _ | with_reducible exact hHeld.far (by omega) _ _ _ | with_reducible exact K5.alloc _ | with_reducible exact (K5.alloc _).alloc _ | with_reducible exact (K5.alloc _).far (by omega) _ _ _ | with_reducible exact (K5.far (by omega) _ _ _).alloc _ | with_reducible exact ((K5.alloc _).alloc _).far (by omega) _ _ _)
            clear hK K hHeld
            have hHeld := hHeld2
            clear hHeld2
            try simp only [Act.put, List.setIfInBounds_toArray, List.set_cons_zero, List.set_cons_succ]
            refine wpAnyH_ready (rs := [6]) (by kernel_rfl) (by simp) ?rdy5035
            refine (AllReadyH.cons (List.getElem?_toArray.trans rfl) (fun K hK => ?stp5035_6) AllReadyH.nil)
            case stp5035_6 =>
              go_simp
              go_wp2_with fail
              refine hK.out _ _ ?hSn5036 (fun hHeld2 => ?rest5036)
              case hSn5036 => (first | with_reducible exact R0.drew | with_reducible exact (R0.alloc _).drew | with_reducible exact ((R0.alloc _).alloc _).drew | with_reducible exact hHeld.below hb4 | with_reducible exact hHeld.below hb5 | with_reducible exact hHeld.alloc _ | with_reducible exact hHeld.far (by omega) _ _ _ | with_reducible exact K5.alloc _ | with_reducible exact (K5.alloc _).alloc _ | with_reducible exact (K5.alloc _).far (by omega) _ _ _ | with_reducible exact (K5.far (by omega) _ _ _).alloc _ | with_reducible exact ((K5.alloc _).alloc _).far (by omega) _ _ _)
              clear hK K hHeld
              have hHeld := hHeld2
              clear hHeld2
              try simp only [Act.put, List.setIfInBounds_toArray, List.set_cons_zero, List.set_cons_succ]
              refine wpAnyH_ready (rs := [7]) (by kernel_rfl) (by simp) ?rdy5037
              refine (AllReadyH.cons (List.getElem?_toArray.trans rfl) (fun K hK => ?stp5037_7) AllReadyH.nil)
              case stp5037_7 =>
                go_simp
                go_wp2_with fail
                refine hK.out _ _ ?hSn5038 (fun hHeld2 => ?rest5038)
                case hSn5038 => (first | with_reducible exact R0.drew | with_reducible exact (R0.alloc _).drew | with_reducible exact ((R0.alloc _).alloc _).drew | with_reducible exact hHeld.below hb4 | with_reducible exact hHeld.below hb5 | with_reducible exact hHeld.alloc _ | with_reducible exact hHeld.far (by omega) _ _ _ | with_reducible exact K5.alloc _ | with_reducible exact (K5.alloc _).alloc _ | with_reducible exact (K5.alloc _).far (by omega) _ _ _ | with_reducible exact (K5.far (by omega) _ _ _).alloc _ | with_reducible exact ((K5.alloc _).alloc _).far (by omega) _ _ _)
                clear hK K hHeld
                have hHeld := hHeld2
                clear hHeld2
                try simp only [Act.put, List.setIfInBounds_toArray, List.set_cons_zero, List.set_cons_succ]
                refine wpAnyH_done (by kernel_rfl) ?_ _
                go_wp2_with fail
                go_meet
                case rel => exact ⟨_, _, rfl, rfl, (by (repeat (first | with_reducible exact Blk.new _ _ _ | with_reducible exact Blk.newB _ _ _ _ | with_reducible exact Blk.news3 _ _ _ _ _ _ _ _ _ | with_reducible exact U5 | with_reducible exact V5 | with_reducible exact X5 | with_reducible exact Y5 | with_reducible refine Blk.put3 (x := .bool false) (y := .int .u64 0) (z := .int .u64 0) ?_ _ _ _ | with_reducible refine Blk.far3 ?_ (by omega) _ _ _ | with_reducible refine Blk.alloc ?_ _))), (by (repeat (first | with_reducible exact Blk.new _ _ _ | with_reducible exact Blk.newB _ _ _ _ | with_reducible exact Blk.news3 _ _ _ _ _ _ _ _ _ | with_reducible exact U5 | with_reducible exact V5 | with_reducible exact X5 | with_reducible exact Y5 | with_reducible refine Blk.put3 (x := .bool false) (y := .int .u64 0) (z := .int .u64 0) ?_ _ _ _ | with_reducible refine Blk.far3 ?_ (by omega) _ _ _ | with_reducible refine Blk.alloc ?_ _))), hHeld⟩
      case stp5006_5 =>
        go_simp
        go_wp2_with fail
        refine hK.out _ _ ?hSn5039 (fun hHeld2 => ?rest5039)
        case hSn5039 => (first | with_reducible exact R0.drew | with_reducible exact (R0.alloc _).drew | with_reducible exact ((R0.alloc _).alloc _).drew | with_reducible exact hHeld.below hb4 | with_reducible exact hHeld.below hb5 | with_reducible exact hHeld.alloc _ | with_reducible exact hHeld.far (by omega) _ _ _ | with_reducible exact K5.alloc _ | with_reducible exact (K5.alloc _).alloc _ | with_reducible exact (K5.alloc _).far (by omega) _ _ _ | with_reducible exact (K5.far (by omega) _ _ _).alloc _ | with_reducible exact ((K5.alloc _).alloc _).far (by omega) _ _ _)
        clear hK K hHeld
        have hHeld := hHeld2
        clear hHeld2
        try simp only [Act.put, List.setIfInBounds_toArray, List.set_cons_zero, List.set_cons_succ]
        refine wpAnyH_ready (rs := [3, 4]) (by kernel_rfl) (by simp) ?rdy5040
        refine (AllReadyH.cons (List.getElem?_toArray.trans rfl) (fun K hK => ?stp5040_3) (AllReadyH.cons (List.getElem?_toArray.trans rfl) (fun K hK => ?stp5040_4) AllReadyH.nil))
        case stp5040_3 =>
          go_simp
          go_wp2_with fail
          (refine (CL.out _).mono ?_; rintro e w5 ⟨rfl, hb5⟩; have K5 := hHeld.below hb5; have s5 : w4.heap.size ≤ w5.heap.size := (by have := hb5.size; first | exact this | (simp at this; omega)); (first | (have U5 := U4.below hb5; obtain ⟨a0, a1, a2, a3, a4, a5, a6⟩ := U5.three) | (have U5 := Blk.via hb5 (U4.alloc (.cells #[.bool false, .int .u64 0, .int .u64 0] 26)) rfl; obtain ⟨a0, a1, a2, a3, a4, a5, a6⟩ := U5.three) | (have U5 := Blk.via hb5 ((U4.alloc (.cells #[.bool false, .int .u64 0, .int .u64 0] 26)).alloc (.cells #[.bool false, .int .u64 0, .int .u64 0] 26)) rfl; obtain ⟨a0, a1, a2, a3, a4, a5, a6⟩ := U5.three) | skip); (first | (have V5 := V4.below hb5; obtain ⟨b0, b1, b2, b3, b4, b5, b6⟩ := V5.three) | (have V5 := Blk.via hb5 (V4.alloc (.cells #[.bool false, .int .u64 0, .int .u64 0] 26)) rfl; obtain ⟨b0, b1, b2, b3, b4, b5, b6⟩ := V5.three) | (have V5 := Blk.via hb5 ((V4.alloc (.cells #[.bool false, .int .u64 0, .int .u64 0] 26)).alloc (.cells #[.bool false, .int .u64 0, .int .u64 0] 26)) rfl; obtain ⟨b0, b1, b2, b3, b4, b5, b6⟩ := V5.three) | skip); first | (have X5 : Blk w5 w4.heap.size #[.bool false, .int .u64 0, .int .u64 0] 26 := Blk.via hb5 ((Blk.new w4 #[.bool false, .int .u64 0, .int .u64 0] 26).alloc (.cells #[.bool false, .int .u64 0, .int .u64 0] 26)) rfl; have Y5 : Blk w5 (w4.heap.size + 1) #[.bool false, .int .u64 0, .int .u64 0] 26 := Blk.via hb5 (Blk.newB w4 (.cells #[.bool false, .int .u64 0, .int .u64 0] 26) #[.bool false, .int .u64 0, .int .u64 0] 26) rfl; obtain ⟨p0, p1, p2, p3, p4, p5, p6⟩ := X5.three; obtain ⟨q0, q1, q2, q3, q4, q5, q6⟩ := Y5.three) | (have X5 : Blk w5 w4.heap.size #[.bool false, .int .u64 0, .int .u64 0] 26 := Blk.via hb5 (Blk.new w4 #[.bool false, .int .u64 0, .int .u64 0] 26) rfl; obtain ⟨p0, p1, p2, p3, p4, p5, p6⟩ := X5.three) | skip)
          go_wp2_with fail
          refine hK.out _ _ ?hSn5041 (fun hHeld2 => ?rest5041)
          case hSn5041 => (first | with_reducible exact R0.drew | with_reducible exact (R0.alloc _).drew | with_reducible exact ((R0.alloc _).alloc _).drew | with_reducible exact hHeld.below hb4 | with_reducible exact hHeld.below hb5 | with_reducible exact hHeld.alloc _ | with_reducible exact hHeld.far (by omega) _ _ _ | with_reducible exact K5.alloc _ | with_reducible exact (K5.alloc _).alloc _ | with_reducible exact (K5.alloc _).far (by omega) _ _ _ | with_reducible exact (K5.far (by omega) _ _ _).alloc _ | with_reducible exact ((K5.alloc _).alloc _).far (by omega) _ _ _)
          clear hK K hHeld
          have hHeld := hHeld2
          clear hHeld2
          try simp only [Act.put, List.setIfInBounds_toArray, List.set_cons_zero, List.set_cons_succ]
          refine wpAnyH_ready (rs := [4]) (by kernel_rfl) (by simp) ?rdy5042
          refine (AllReadyH.cons (List.getElem?_toArray.trans rfl) (fun K hK => ?stp5042_4) AllReadyH.nil)
          case stp5042_4 =>
            go_simp
            go_wp2_with fail
            refine hK.out _ _ ?hSn5043 (fun hHeld2 => ?rest5043)
            case hSn5043 => (first | with_reducible exact R0.drew | with_reducible exact (R0.alloc _).drew | with_reducible exact ((R0.alloc _).alloc _).drew | with_reducible exact hHeld.below hb4 | with_reducible exact hHeld.below hb5 | with_reducible exact hHeld.alloc _ | with_reducible exact hHeld.far (by omega) _ _ _ | with_reducible exact K5.alloc _ | with_reducible exact (K5.alloc _).alloc _ | with_reducible exact (K5.alloc _).far (by omega) _ _ _ | with_reducible exact (K5.far (by omega) _ _ _).alloc _ | with_reducible exact ((K5.alloc _).alloc _).far (by omega) _ _ _)
            clear hK K hHeld
            have hHeld := hHeld2
            clear hHeld2
            try simp only [Act.put, List.setIfInBounds_toArray, List.set_cons_zero, List.set_cons_succ]
            refine wpAnyH_ready (rs := [6]) (by kernel_rfl) (by simp) ?rdy5044
            refine (AllReadyH.cons (List.getElem?_toArray.trans rfl) (fun K hK => ?stp5044_6) AllReadyH.nil)
            case stp5044_6 =>
              go_simp
              go_wp2_with fail
              refine hK.out _ _ ?hSn5045 (fun hHeld2 => ?rest5045)
              case hSn5045 => (first | with_reducible exact R0.drew | with_reducible exact (R0.alloc _).drew | with_reducible exact ((R0.alloc _).alloc _).drew | with_reducible exact hHeld.below hb4 | with_reducible exact hHeld.below hb5 | with_reducible exact hHeld.alloc _ | with_reducible exact hHeld.far (by omega) _ _ _ | with_reducible exact K5.alloc _ | with_reducible exact (K5.alloc _).alloc _ | with_reducible exact (K5.alloc _).far (by omega) _ _ _ | with_reducible exact (K5.far (by omega) _ _ _).alloc _ | with_reducible exact ((K5.alloc _).alloc _).far (by omega) _ _ _)
              clear hK K hHeld
              have hHeld := hHeld2
              clear hHeld2
              try simp only [Act.put, List.setIfInBounds_toArray, List.set_cons_zero, List.set_cons_succ]
              refine wpAnyH_ready (rs := [7]) (by kernel_rfl) (by simp) ?rdy5046
              refine (AllReadyH.cons (List.getElem?_toArray.trans rfl) (fun K hK => ?stp5046_7) AllReadyH.nil)
              case stp5046_7 =>
                go_simp
                go_wp2_with fail
                refine hK.out _ _ ?hSn5047 (fun hHeld2 => ?rest5047)
                case hSn5047 => (first | with_reducible exact R0.drew | with_reducible exact (R0.alloc _).drew | with_reducible exact ((R0.alloc _).alloc _).drew | with_reducible exact hHeld.below hb4 | with_reducible exact hHeld.below hb5 | with_reducible exact hHeld.alloc _ | with_reducible exact hHeld.far (by omega) _ _ _ | with_reducible exact K5.alloc _ | with_reducible exact (K5.alloc _).alloc _ | with_reducible exact (K5.alloc _).far (by omega) _ _ _ | with_reducible exact (K5.far (by omega) _ _ _).alloc _ | with_reducible exact ((K5.alloc _).alloc _).far (by omega) _ _ _)
                clear hK K hHeld
                have hHeld := hHeld2
                clear hHeld2
                try simp only [Act.put, List.setIfInBounds_toArray, List.set_cons_zero, List.set_cons_succ]
                refine wpAnyH_done (by kernel_rfl) ?_ _
                go_wp2_with fail
                go_meet
                case rel => exact ⟨_, _, rfl, rfl, (by (repeat (first | with_reducible exact Blk.new _ _ _ | with_reducible exact Blk.newB _ _ _ _ | with_reducible exact Blk.news3 _ _ _ _ _ _ _ _ _ | with_reducible exact U5 | with_reducible exact V5 | with_reducible exact X5 | with_reducible exact Y5 | with_reducible refine Blk.put3 (x := .bool false) (y := .int .u64 0) (z := .int .u64 0) ?_ _ _ _ | with_reducible refine Blk.far3 ?_ (by omega) _ _ _ | with_reducible refine Blk.alloc ?_ _))), (by (repeat (first | with_reducible exact Blk.new _ _ _ | with_reducible exact Blk.newB _ _ _ _ | with_reducible exact Blk.news3 _ _ _ _ _ _ _ _ _ | with_reducible exact U5 | with_reducible exact V5 | with_reducible exact X5 | with_reducible exact Y5 | with_reducible refine Blk.put3 (x := .bool false) (y := .int .u64 0) (z := .int .u64 0) ?_ _ _ _ | with_reducible refine Blk.far3 ?_ (by omega) _ _ _ | with_reducible refine Blk.alloc ?_ _))), hHeld⟩
        case stp5040_4 =>
          go_simp
          go_wp2_with fail
          refine hK.out _ _ ?hSn5048 (fun hHeld2 => ?rest5048)
          case hSn5048 => (first | with_reducible exact R0.drew | with_reducible exact (R0.alloc _).drew | with_reducible exact ((R0.alloc _).alloc _).drew | with_reducible exact hHeld.below hb4 | with_reducible exact hHeld.below hb5 | with_reducible exact hHeld.alloc _ | with_reducible exact hHeld.far (by omega) _ _ _ | with_reducible exact K5.alloc _ | with_reducible exact (K5.alloc _).alloc _ | with_reducible exact (K5.alloc _).far (by omega) _ _ _ | with_reducible exact (K5.far (by omega) _ _ _).alloc _ | with_reducible exact ((K5.alloc _).alloc _).far (by omega) _ _ _)
          clear hK K hHeld
          have hHeld := hHeld2
          clear hHeld2
          try simp only [Act.put, List.setIfInBounds_toArray, List.set_cons_zero, List.set_cons_succ]
          refine wpAnyH_ready (rs := [3]) (by kernel_rfl) (by simp) ?rdy5049
          refine (AllReadyH.cons (List.getElem?_toArray.trans rfl) (fun K hK => ?stp5049_3) AllReadyH.nil)
          case stp5049_3 =>
            go_simp
            go_wp2_with fail
            (refine (CL.out _).mono ?_; rintro e w5 ⟨rfl, hb5⟩; have K5 := hHeld.below hb5; have s5 : w4.heap.size ≤ w5.heap.size := (by have := hb5.size; first | exact this | (simp at this; omega)); (first | (have U5 := U4.below hb5; obtain ⟨a0, a1, a2, a3, a4, a5, a6⟩ := U5.three) | (have U5 := Blk.via hb5 (U4.alloc (.cells #[.bool false, .int .u64 0, .int .u64 0] 26)) rfl; obtain ⟨a0, a1, a2, a3, a4, a5, a6⟩ := U5.three) | (have U5 := Blk.via hb5 ((U4.alloc (.cells #[.bool false, .int .u64 0, .int .u64 0] 26)).alloc (.cells #[.bool false, .int .u64 0, .int .u64 0] 26)) rfl; obtain ⟨a0, a1, a2, a3, a4, a5, a6⟩ := U5.three) | skip); (first | (have V5 := V4.below hb5; obtain ⟨b0, b1, b2, b3, b4, b5, b6⟩ := V5.three) | (have V5 := Blk.via hb5 (V4.alloc (.cells #[.bool false, .int .u64 0, .int .u64 0] 26)) rfl; obtain ⟨b0, b1, b2, b3, b4, b5, b6⟩ := V5.three) | (have V5 := Blk.via hb5 ((V4.alloc (.cells #[.bool false, .int .u64 0, .int .u64 0] 26)).alloc (.cells #[.bool false, .int .u64 0, .int .u64 0] 26)) rfl; obtain ⟨b0, b1, b2, b3, b4, b5, b6⟩ := V5.three) | skip); first | (have X5 : Blk w5 w4.heap.size #[.bool false, .int .u64 0, .int .u64 0] 26 := Blk.via hb5 ((Blk.new w4 #[.bool false, .int .u64 0, .int .u64 0] 26).alloc (.cells #[.bool false, .int .u64 0, .int .u64 0] 26)) rfl; have Y5 : Blk w5 (w4.heap.size + 1) #[.bool false, .int .u64 0, .int .u64 0] 26 := Blk.via hb5 (Blk.newB w4 (.cells #[.bool false, .int .u64 0, .int .u64 0] 26) #[.bool false, .int .u64 0, .int .u64 0] 26) rfl; obtain ⟨p0, p1, p2, p3, p4, p5, p6⟩ := X5.three; obtain ⟨q0, q1, q2, q3, q4, q5, q6⟩ := Y5.three) | (have X5 : Blk w5 w4.heap.size #[.bool false, .int .u64 0, .int .u64 0] 26 := Blk.via hb5 (Blk.new w4 #[.bool false, .int .u64 0, .int .u64 0] 26) rfl; obtain ⟨p0, p1, p2, p3, p4, p5, p6⟩ := X5.three) | skip)
            go_wp2_with fail
            refine hK.out _ _ ?hSn5050 (fun hHeld2 => ?rest5050)
            case hSn5050 => (first | with_reducible exact R0.drew | with_reducible exact (R0.alloc _).drew | with_reducible exact ((R0.alloc _).alloc _).drew | with_reducible exact hHeld.below hb4 | with_reducible exact hHeld.below hb5 | with_reducible exact hHeld.alloc _ | with_reducible exact hHeld.far (by omega) _ _ _ | with_reducible exact K5.alloc _ | with_reducible exact (K5.alloc _).alloc _ | with_reducible exact (K5.alloc _).far (by omega) _ _ _ | with_reducible exact (K5.far (by omega) _ _ _).alloc _ | with_reducible exact ((K5.alloc _).alloc _).far (by omega) _ _ _)
            clear hK K hHeld
            have hHeld := hHeld2
            clear hHeld2
            try simp only [Act.put, List.setIfInBounds_toArray, List.set_cons_zero, List.set_cons_succ]
            refine wpAnyH_ready (rs := [6]) (by kernel_rfl) (by simp) ?rdy5051
            refine (AllReadyH.cons (List.getElem?_toArray.trans rfl) (fun K hK => ?stp5051_6) AllReadyH.nil)
            case stp5051_6 =>
              go_simp
              go_wp2_with fail
              refine hK.out _ _ ?hSn5052 (fun hHeld2 => ?rest5052)
              case hSn5052 => (first | with_reducible exact R0.drew | with_reducible exact (R0.alloc _).drew | with_reducible exact ((R0.alloc _).alloc _).drew | with_reducible exact hHeld.below hb4 | with_reducible exact hHeld.below hb5 | with_reducible exact hHeld.alloc _ | with_reducible exact hHeld.far (by omega) _ _ _ | with_reducible exact K5.alloc _ | with_reducible exact (K5.alloc _).alloc _ | with_reducible exact (K5.alloc _).far (by omega) _ _ _ | with_reducible exact (K5.far (by omega) _ _ _).alloc _ | with_reducible exact ((K5.alloc _).alloc _).far (by omega) _ _ _)
              clear hK K hHeld
              have hHeld := hHeld2
              clear hHeld2
              try simp only [Act.put, List.setIfInBounds_toArray, List.set_cons_zero, List.set_cons_succ]
              refine wpAnyH_ready (rs := [7]) (by kernel_rfl) (by simp) ?rdy5053
              refine (AllReadyH.cons (List.getElem?_toArray.trans rfl) (fun K hK => ?stp5053_7) AllReadyH.nil)
              case stp5053_7 =>
                go_simp
                go_wp2_with fail
                refine hK.out _ _ ?hSn5054 (fun hHeld2 => ?rest5054)
                case hSn5054 => (first | with_reducible exact R0.drew | with_reducible exact (R0.alloc _).drew | with_reducible exact ((R0.alloc _).alloc _).drew | with_reducible exact hHeld.below hb4 | with_reducible exact hHeld.below hb5 | with_reducible exact hHeld.alloc _ | with_reducible exact hHeld.far (by omega) _ _ _ | with_reducible exact K5.alloc _ | with_reducible exact (K5.alloc _).alloc _ | with_reducible exact (K5.alloc _).far (by omega) _ _ _ | with_reducible exact (K5.far (by omega) _ _ _).alloc _ | with_reducible exact ((K5.alloc _).alloc _).far (by omega) _ _ _)
                clear hK K hHeld
                have hHeld := hHeld2
                clear hHeld2
                try simp only [Act.put, List.setIfInBounds_toArray, List.set_cons_zero, List.set_cons_succ]
                refine wpAnyH_done (by kernel_rfl) ?_ _
                go_wp2_with fail
                go_meet
                case rel => exact ⟨_, _, rfl, rfl, (by (repeat (first | with_reducible exact Blk.new _ _ _ | with_reducible exact Blk.newB _ _ _ _ | with_reducible exact Blk.news3 _ _ _ _ _ _ _ _ _ | with_reducible exact U5 | with_reducible exact V5 | with_reducible exact X5 | with_reducible exact Y5 | with_reducible refine Blk.put3 (x := .bool false) (y := .int .u64 0) (z := .int .u64 0) ?_ _ _ _ | with_reducible refine Blk.far3 ?_ (by omega) _ _ _ | with_reducible refine Blk.alloc ?_ _))), (by (repeat (first | with_reducible exact Blk.new _ _ _ | with_reducible exact Blk.newB _ _ _ _ | with_reducible exact Blk.news3 _ _ _ _ _ _ _ _ _ | with_reducible exact U5 | with_reducible exact V5 | with_reducible exact X5 | with_reducible exact Y5 | with_reducible refine Blk.put3 (x := .bool false) (y := .int .u64 0) (z := .int .u64 0) ?_ _ _ _ | with_reducible refine Blk.far3 ?_ (by omega) _ _ _ | with_reducible refine Blk.alloc ?_ _))), hHeld⟩
    case stp5004_4 =>
      go_simp
      go_wp2_with fail
      refine hK.out _ _ ?hSn5055 (fun hHeld2 => ?rest5055)
      case hSn5055 => (first | with_reducible exact R0.drew | with_reducible exact (R0.alloc _).drew | with_reducible exact ((R0.alloc _).alloc _).drew | with_reducible exact hHeld.below hb4 | with_reducible exact hHeld.below hb5 | with_reducible exact hHeld.alloc _ | with_reducible exact hHeld.far (by omega) _ _ _ | with_reducible exact K5.alloc _ | with_reducible exact (K5.alloc _).alloc _ | with_reducible exact (K5.alloc _).far (by omega) _ _ _ | with_reducible exact (K5.far (by omega) _ _ _).alloc _ | with_reducible exact ((K5.alloc _).alloc _).far (by omega) _ _ _)
      clear hK K hHeld
      have hHeld := hHeld2
      clear hHeld2
      try simp only [Act.put, List.setIfInBounds_toArray, List.set_cons_zero, List.set_cons_succ]
      refine wpAnyH_ready (rs := [1, 5]) (by kernel_rfl) (by simp) ?rdy5056
      refine (AllReadyH.cons (List.getElem?_toArray.trans rfl) (fun K hK => ?stp5056_1) (AllReadyH.cons (List.getElem?_toArray.trans rfl) (fun K hK => ?stp5056_5) AllReadyH.nil))
      case stp5056_1 =>
        go_simp
        go_wp2_with fail
        (refine (CF.out _).mono ?_; rintro e w4 ⟨rfl, hb4⟩; have s4 : w0.heap.size ≤ w4.heap.size := (by have := hb4.size; first | exact this | (simp at this; omega)); first | (have U4 : Blk w4 w0.heap.size #[.bool false, .int .u64 0, .int .u64 0] 26 := Blk.via hb4 ((Blk.new w0 #[.bool false, .int .u64 0, .int .u64 0] 26).alloc (.cells #[.bool false, .int .u64 0, .int .u64 0] 26)) rfl; have V4 : Blk w4 (w0.heap.size + 1) #[.bool false, .int .u64 0, .int .u64 0] 26 := Blk.via hb4 (Blk.newB w0 (.cells #[.bool false, .int .u64 0, .int .u64 0] 26) #[.bool false, .int .u64 0, .int .u64 0] 26) rfl; obtain ⟨u0, u1, u2, u3, u4, u5, u6⟩ := U4.three; obtain ⟨y0, y1, y2, y3, y4, y5, y6⟩ := V4.three) | (have U4 : Blk w4 w0.heap.size #[.bool false, .int .u64 0, .int .u64 0] 26 := Blk.via hb4 (Blk.new w0 #[.bool false, .int .u64 0, .int .u64 0] 26) rfl; obtain ⟨u0, u1, u2, u3, u4, u5, u6⟩ := U4.three) | skip)
        go_wp2_with fail
        refine hK.out _ _ ?hSn5057 (fun hHeld2 => ?rest5057)
        case hSn5057 => (first | with_reducible exact R0.drew | with_reducible exact (R0.alloc _).drew | with_reducible exact ((R0.alloc _).alloc _).drew | with_reducible exact hHeld.below hb4 | with_reducible exact hHeld.below hb5 | with_reducible exact hHeld.alloc _ | with_reducible exact hHeld.far (by omega) _ _ _ | with_reducible exact K5.alloc _ | with_reducible exact (K5.alloc _).alloc _ | with_reducible exact (K5.alloc _).far (by omega) _ _ _ | with_reducible exact (K5.far (by omega) _ _ _).alloc _ | with_reducible exact ((K5.alloc _).alloc _).far (by omega) _ _ _)
        clear hK K hHeld
        have hHeld := hHeld2
        clear hHeld2
        try simp only [Act.put, List.setIfInBounds_toArray, List.set_cons_zero, List.set_cons_succ]
        refine wpAnyH_ready (rs := [3, 5]) (by kernel_rfl) (by simp) ?rdy5058
        refine (AllReadyH.cons (List.getElem?_toArray.trans rfl) (fun K hK => ?stp5058_3) (AllReadyH.cons (List.getElem?_toArray.trans rfl) (fun K hK => ?stp5058_5) AllReadyH.nil))
        case stp5058_3 =>
          go_simp
          go_wp2_with fail
          (refine (CL.out _).mono ?_; rintro e w5 ⟨rfl, hb5⟩; have K5 := hHeld.below hb5; have s5 : w4.heap.size ≤ w5.heap.size := (by have := hb5.size; first | exact this | (simp at this; omega)); (first | (have U5 := U4.below hb5; obtain ⟨a0, a1, a2, a3, a4, a5, a6⟩ := U5.three) | (have U5 := Blk.via hb5 (U4.alloc (.cells #[.bool false, .int .u64 0, .int .u64 0] 26)) rfl; obtain ⟨a0, a1, a2, a3, a4, a5, a6⟩ := U5.three) | (have U5 := Blk.via hb5 ((U4.alloc (.cells #[.bool false, .int .u64 0, .int .u64 0] 26)).alloc (.cells #[.bool false, .int .u64 0, .int .u64 0] 26)) rfl; obtain ⟨a0, a1, a2, a3, a4, a5, a6⟩ := U5.three) | skip); (first | (have V5 := V4.below hb5; obtain ⟨b0, b1, b2, b3, b4, b5, b6⟩ := V5.three) | (have V5 := Blk.via hb5 (V4.alloc (.cells #[.bool false, .int .u64 0, .int .u64 0] 26)) rfl; obtain ⟨b0, b1, b2, b3, b4, b5, b6⟩ := V5.three) | (have V5 := Blk.via hb5 ((V4.alloc (.cells #[.bool false, .int .u64 0, .int .u64 0] 26)).alloc (.cells #[.bool false, .int .u64 0, .int .u64 0] 26)) rfl; obtain ⟨b0, b1, b2, b3, b4, b5, b6⟩ := V5.three) | skip); first | (have X5 : Blk w5 w4.heap.size #[.bool false, .int .u64 0, .int .u64 0] 26 := Blk.via hb5 ((Blk.new w4 #[.bool false, .int .u64 0, .int .u64 0] 26).alloc (.cells #[.bool false, .int .u64 0, .int .u64 0] 26)) rfl; have Y5 : Blk w5 (w4.heap.size + 1) #[.bool false, .int .u64 0, .int .u64 0] 26 := Blk.via hb5 (Blk.newB w4 (.cells #[.bool false, .int .u64 0, .int .u64 0] 26) #[.bool false, .int .u64 0, .int .u64 0] 26) rfl; obtain ⟨p0, p1, p2, p3, p4, p5, p6⟩ := X5.three; obtain ⟨q0, q1, q2, q3, q4, q5, q6⟩ := Y5.three) | (have X5 : Blk w5 w4.heap.size #[.bool false, .int .u64 0, .int .u64 0] 26 := Blk.via hb5 (Blk.new w4 #[.bool false, .int .u64 0, .int .u64 0] 26) rfl; obtain ⟨p0, p1, p2, p3, p4, p5, p6⟩ := X5.three) | skip)
          go_wp2_with fail
          refine hK.out _ _ ?hSn5059 (fun hHeld2 => ?rest5059)
          case hSn5059 => (first | with_reducible exact R0.drew | with_reducible exact (R0.alloc _).drew | with_reducible exact ((R0.alloc _).alloc _).drew | with_reducible exact hHeld.below hb4 | with_reducible exact hHeld.below hb5 | with_reducible exact hHeld.alloc _ | with_reducible exact hHeld.far (by omega) _ _ _ | with_reducible exact K5.alloc _ | with_reducible exact (K5.alloc _).alloc _ | with_reducible exact (K5.alloc _).far (by omega) _ _ _ | with_reducible exact (K5.far (by omega) _ _ _).alloc _ | with_reducible exact ((K5.alloc _).alloc _).far (by omega) _ _ _)
          clear hK K hHeld
          have hHeld := hHeld2
          clear hHeld2
          try simp only [Act.put, List.setIfInBounds_toArray, List.set_cons_zero, List.set_cons_succ]
          refine wpAnyH_ready (rs := [5]) (by kernel_rfl) (by simp) ?rdy5060
          refine (AllReadyH.cons (List.getElem?_toArray.trans rfl) (fun K hK => ?stp5060_5) AllReadyH.nil)
          case stp5060_5 =>
            go_simp
            go_wp2_with fail
            refine hK.out _ _ ?hSn5061 (fun hHeld2 => ?rest5061)
            case hSn5061 => (first | with_reducible exact R0.drew | with_reducible exact (R0.alloc _).drew | with_reducible exact ((R0.alloc _).alloc _).drew | with_reducible exact hHeld.below hb4 | with_reducible exact hHeld.below hb5 | with_reducible exact hHeld.alloc _ | with_reducible exact hHeld.far (by omega) _ _ _ | with_reducible exact K5.alloc _ | with_reducible exact (K5.alloc _).alloc _ | with_reducible exact (K5.alloc _).far (by omega) _ _ _ | with_reducible exact (K5.far (by omega) _ _ _).alloc _ | with_reducible exact ((K5.alloc _).alloc _).far (by omega) _ _ _)
            clear hK K hHeld
            have hHeld := hHeld2
            clear hHeld2
            try simp only [Act.put, List.setIfInBounds_toArray, List.set_cons_zero, List.set_cons_succ]
            refine wpAnyH_ready (rs := [6]) (by kernel_rfl) (by simp) ?rdy5062
            refine (AllReadyH.cons (List.getElem?_toArray.trans rfl) (fun K hK => ?stp5062_6) AllReadyH.nil)
            case stp5062_6 =>
              go_simp
              go_wp2_with fail
              refine hK.out _ _ ?hSn5063 (fun hHeld2 => ?rest5063)
              case hSn5063 => (first | with_reducible exact R0.drew | with_reducible exact (R0.alloc _).drew | with_reducible exact ((R0.alloc _).alloc _).drew | with_reducible exact hHeld.below hb4 | with_reducible exact hHeld.below hb5 | with_reducible exact hHeld.alloc _ | with_reducible exact hHeld.far (by omega) _ _ _ | with_reducible exact K5.alloc _ | with_reducible exact (K5.alloc _).alloc _ | with_reducible exact (K5.alloc _).far (by omega) _ _ _ | with_reducible exact (K5.far (by omega) _ _ _).alloc _ | with_reducible exact ((K5.alloc _).alloc _).far (by omega) _ _ _)
              clear hK K hHeld
              have hHeld := hHeld2
              clear hHeld2
              try simp only [Act.put, List.setIfInBounds_toArray, List.set_cons_zero, List.set_cons_succ]
              refine wpAnyH_ready (rs := [7]) (by kernel_rfl) (by simp) ?rdy5064
              refine (AllReadyH.cons (List.getElem?_toArray.trans rfl) (fun K hK => ?stp5064_7) AllReadyH.nil)
              case stp5064_7 =>
                go_simp
                go_wp2_with fail
                refine hK.out _ _ ?hSn5065 (fun hHeld2 => ?rest5065)
                case hSn5065 => (first | with_reducible exact R0.drew | with_reducible exact (R0.alloc _).drew | with_reducible exact ((R0.alloc _).alloc _).drew | with_reducible exact hHeld.below hb4 | with_reducible exact hHeld.below hb5 | with_reducible exact hHeld.alloc _ | with_reducible exact hHeld.far (by omega) _ _ _ | with_reducible exact K5.alloc _ | with_reducible exact (K5.alloc _).alloc _ | with_reducible exact (K5.alloc _).far (by omega) _ _ _ | with_reducible exact (K5.far (by omega) _ _ _).alloc _ | with_reducible exact ((K5.alloc _).alloc _).far (by omega) _ _ _)
                clear hK K hHeld
                have hHeld := hHeld2
                clear hHeld2
                try simp only [Act.put, List.setIfInBounds_toArray, List.set_cons_zero, List.set_cons_succ]
                refine wpAnyH_done (by kernel_rfl) ?_ _
                go_wp2_with fail
                go_meet
                case rel => exact ⟨_, _, rfl, rfl, (by (repeat (first | with_reducible exact Blk.new _ _ _ | with_reducible exact Blk.newB _ _ _ _ | with_reducible exact Blk.news3 _ _ _ _ _ _ _ _ _ | with_reducible exact U5 | with_reducible exact V5 | with_reducible exact X5 | with_reducible exact Y5 | with_reducible refine Blk.put3 (x := .bool false) (y := .int .u64 0) (z := .int .u64 0) ?_ _ _ _ | with_reducible refine Blk.far3 ?_ (by omega) _ _ _ | with_reducible refine Blk.alloc ?_ _))), (by (repeat (first | with_reducible exact Blk.new _ _ _ | with_reducible exact Blk.newB _ _ _ _ | with_reducible exact Blk.news3 _ _ _ _ _ _ _ _ _ | with_reducible exact U5 | with_reducible exact V5 | with_reducible exact X5 | with_reducible exact Y5 | with_reducible refine Blk.put3 (x := .bool false) (y := .int .u64 0) (z := .int .u64 0) ?_ _ _ _ | with_reducible refine Blk.far3 ?_ (by omega) _ _ _ | with_reducible refine Blk.alloc ?_ _))), hHeld⟩
        case stp5058_5 =>
          go_simp
          go_wp2_with fail
          refine hK.out _ _ ?hSn5066 (fun hHeld2 => ?rest5066)
          case hSn5066 => (first | with_reducible exact R0.drew | with_reducible exact (R0.alloc _).drew | with_reducible exact ((R0.alloc _).alloc _).drew | with_reducible exact hHeld.below hb4 | with_reducible exact hHeld.below hb5 | with_reducible exact hHeld.alloc _ | with_reducible exact hHeld.far (by omega) _ _ _ | with_reducible exact K5.alloc _ | with_reducible exact (K5.alloc _).alloc _ | with_reducible exact (K5.alloc _).far (by omega) _ _ _ | with_reducible exact (K5.far (by omega) _ _ _).alloc _ | with_reducible exact ((K5.alloc _).alloc _).far (by omega) _ _ _)
          clear hK K hHeld
          have hHeld := hHeld2
          clear hHeld2
          try simp only [Act.put, List.setIfInBounds_toArray, List.set_cons_zero, List.set_cons_succ]
          refine wpAnyH_ready (rs := [3]) (by kernel_rfl) (by simp) ?rdy5067
          refine (AllReadyH.cons (List.getElem?_toArray.trans rfl) (fun K hK => ?stp5067_3) AllReadyH.nil)
          case stp5067_3 =>
            go_simp
            go_wp2_with fail
            (refine (CL.out _).mono ?_; rintro e w5 ⟨rfl, hb5⟩; have K5 := hHeld.below hb5; have s5 : w4.heap.size ≤ w5.heap.size := (by have := hb5.size; first | exact this | (simp at this; omega)); (first | (have U5 := U4.below hb5; obtain ⟨a0, a1, a2, a3, a4, a5, a6⟩ := U5.three) | (have U5 := Blk.via hb5 (U4.alloc (.cells #[.bool false, .int .u64 0, .int .u64 0] 26)) rfl; obtain ⟨a0, a1, a2, a3, a4, a5, a6⟩ := U5.three) | (have U5 := Blk.via hb5 ((U4.alloc (.cells #[.bool false, .int .u64 0, .int .u64 0] 26)).alloc (.cells #[.bool false, .int .u64 0, .int .u64 0] 26)) rfl; obtain ⟨a0, a1, a2, a3, a4, a5, a6⟩ := U5.three) | skip); (first | (have V5 := V4.below hb5; obtain ⟨b0, b1, b2, b3, b4, b5, b6⟩ := V5.three) | (have V5 := Blk.via hb5 (V4.alloc (.cells #[.bool false, .int .u64 0, .int .u64 0] 26)) rfl; obtain ⟨b0, b1, b2, b3, b4, b5, b6⟩ := V5.three) | (have V5 := Blk.via hb5 ((V4.alloc (.cells #[.bool false, .int .u64 0, .int .u64 0] 26)).alloc (.cells #[.bool false, .int .u64 0, .int .u64 0] 26)) rfl; obtain ⟨b0, b1, b2, b3, b4, b5, b6⟩ := V5.three) | skip); first | (have X5 : Blk w5 w4.heap.size #[.bool false, .int .u64 0, .int .u64 0] 26 := Blk.via hb5 ((Blk.new w4 #[.bool false, .int .u64 0, .int .u64 0] 26).alloc (.cells #[.bool false, .int .u64 0, .int .u64 0] 26)) rfl; have Y5 : Blk w5 (w4.heap.size + 1) #[.bool false, .int .u64 0, .int .u64 0] 26 := Blk.via hb5 (Blk.newB w4 (.cells #[.bool false, .int .u64 0, .int .u64 0] 26) #[.bool false, .int .u64 0, .int .u64 0] 26) rfl; obtain ⟨p0, p1, p2, p3, p4, p5, p6⟩ := X5.three; obtain ⟨q0, q1, q2, q3, q4, q5, q6⟩ := Y5.three) | (have X5 : Blk w5 w4.heap.size #[.bool false, .int .u64 0, .int .u64 0] 26 := Blk.via hb5 (Blk.new w4 #[.bool false, .int .u64 0, .int .u64 0] 26) rfl; obtain ⟨p0, p1, p2, p3, p4, p5, p6⟩ := X5.three) | skip)
            go_wp2_with fail
            refine hK.out _ _ ?hSn5068 (fun hHeld2 => ?rest5068)
            case hSn5068 => (first | with_reducible exact R0.drew | with_reducible exact (R0.alloc _).drew | with_reducible exact ((R0.alloc _).alloc _).drew | with_reducible exact hHeld.below hb4 | with_reducible exact hHeld.below hb5 | with_reducible exact hHeld.alloc _ | with_reducible exact hHeld.far (by omega) _ _ _ | with_reducible exact K5.alloc _ | with_reducible exact (K5.alloc _).alloc _ | with_reducible exact (K5.alloc _).far (by omega) _ _ _ | with_reducible exact (K5.far (by omega) _ _ _).alloc _ | with_reducible exact ((K5.alloc _).alloc _).far (by omega) _ _ _)
            clear hK K hHeld
            have hHeld := hHeld2
            clear hHeld2
            try simp only [Act.put, List.setIfInBounds_toArray, List.set_cons_zero, List.set_cons_succ]
            refine wpAnyH_ready (rs := [6]) (by kernel_rfl) (by simp) ?rdy5069
            refine (AllReadyH.cons (List.getElem?_toArray.trans rfl) (fun K hK => ?stp5069_6) AllReadyH.nil)
            case stp5069_6 =>
              go_simp
              go_wp2_with fail
              refine hK.out _ _ ?hSn5070 (fun hHeld2 => ?rest5070)
              case hSn5070 => (first | with_reducible exact R0.drew | with_reducible exact (R0.alloc _).drew | with_reducible exact ((R0.alloc _).alloc _).drew | with_reducible exact hHeld.below hb4 | with_reducible exact hHeld.below hb5 | with_reducible exact hHeld.alloc _ | with_reducible exact hHeld.far (by omega) _ _ _ | with_reducible exact K5.alloc _ | with_reducible exact (K5.alloc _).alloc _ | with_reducible exact (K5.alloc _).far (by omega) _ _ _ | with_reducible exact (K5.far (by omega) _ _ _).alloc _ | with_reducible exact ((K5.alloc _).alloc _).far (by omega) _ _ _)
              clear hK K hHeld
              have hHeld := hHeld2
              clear hHeld2
              try simp only [Act.put, List.setIfInBounds_toArray, List.set_cons_zero, List.set_cons_succ]
              refine wpAnyH_ready (rs := [7]) (by kernel_rfl) (by simp) ?rdy5071
              refine (AllReadyH.cons (List.getElem?_toArray.trans rfl) (fun K hK => ?stp5071_7) AllReadyH.nil)
              case stp5071_7 =>
                go_simp
                go_wp2_with fail
                refine hK.out _ _ ?hSn5072 (fun hHeld2 => ?rest5072)
                case hSn5072 => (first | with_reducible exact R0.drew | with_reducible exact (R0.alloc _).drew | with_reducible exact ((R0.alloc _).alloc _).drew | with_reducible exact hHeld.below hb4 | with_reducible exact hHeld.below hb5 | with_reducible exact hHeld.alloc _ | with_reducible exact hHeld.far (by omega) _ _ _ | with_reducible exact K5.alloc _ | with_reducible exact (K5.alloc _).alloc _ | with_reducible exact (K5.alloc _).far (by omega) _ _ _ | with_reducible exact (K5.far (by omega) _ _ _).alloc _ | with_reducible exact ((K5.alloc _).alloc _).far (by omega) _ _ _)
                clear hK K hHeld
                have hHeld := hHeld2
                clear hHeld2
                try simp only [Act.put, List.setIfInBounds_toArray, List.set_cons_zero, List.set_cons_succ]
                refine wpAnyH_done (by kernel_rfl) ?_ _
                go_wp2_with fail
                go_meet
                case rel => exact ⟨_, _, rfl, rfl, (by (repeat (first | with_reducible exact Blk.new _ _ _ | with_reducible exact Blk.newB _ _ _ _ | with_reducible exact Blk.news3 _ _ _ _ _ _ _ _ _ | with_reducible exact U5 | with_reducible exact V5 | with_reducible exact X5 | with_reducible exact Y5 | with_reducible refine Blk.put3 (x := .bool false) (y := .int .u64 0) (z := .int .u64 0) ?_ _ _ _ | with_reducible refine Blk.far3 ?_ (by omega) _ _ _ | with_reducible refine Blk.alloc ?_ _))), (by (repeat (first | with_reducible exact Blk.new _ _ _ | with_reducible exact Blk.newB _ _ _ _ | with_reducible exact Blk.news3 _ _ _ _ _ _ _ _ _ | with_reducible exact U5 | with_reducible exact V5 | with_reducible exact X5 | with_reducible exact Y5 | with_reducible refine Blk.put3 (x := .bool false) (y := .int .u64 0) (z := .int .u64 0) ?_ _ _ _ | with_reducible refine Blk.far3 ?_ (by omega) _ _ _ | with_reducible refine Blk.alloc ?_ _))), hHeld⟩
      case stp5056_5 =>
        go_simp
        go_wp2_with fail
        refine hK.out _ _ ?hSn5073 (fun hHeld2 => ?rest5073)
        case hSn5073 => (first | with_reducible exact R0.drew | with_reducible exact (R0.alloc _).drew | with_reducible exact ((R0.alloc _).alloc _).drew | with_reducible exact hHeld.below hb4 | with_reducible exact hHeld.below hb5 | with_reducible exact hHeld.alloc _ | with_reducible exact hHeld.far (by omega) _ _ _ | with_reducible exact K5.alloc _ | with_reducible exact (K5.alloc _).alloc _ | with_reducible exact (K5.alloc _).far (by omega) _ _ _ | with_reducible exact (K5.far (by omega) _ _ _).alloc _ | with_reducible exact ((K5.alloc _).alloc _).far (by omega) _ _ _)
        clear hK K hHeld
        have hHeld := hHeld2
        clear hHeld2
        try simp only [Act.put, List.setIfInBounds_toArray, List.set_cons_zero, List.set_cons_succ]
        refine wpAnyH_ready (rs := [1]) (by kernel_rfl) (by simp) ?rdy5074
        refine (AllReadyH.cons (List.getElem?_toArray.trans rfl) (fun K hK => ?stp5074_1) AllReadyH.nil)
        case stp5074_1 =>
          go_simp
          go_wp2_with fail
          (refine (CF.out _).mono ?_; rintro e w4 ⟨rfl, hb4⟩; have s4 : w0.heap.size ≤ w4.heap.size := (by have := hb4.size; first | exact this | (simp at this; omega)); first | (have U4 : Blk w4 w0.heap.size #[.bool false, .int .u64 0, .int .u64 0] 26 := Blk.via hb4 ((Blk.new w0 #[.bool false, .int .u64 0, .int .u64 0] 26).alloc (.cells #[.bool false, .int .u64 0, .int .u64 0] 26)) rfl; have V4 : Blk w4 (w0.heap.size + 1) #[.bool false, .int .u64 0, .int .u64 0] 26 := Blk.via hb4 (Blk.newB w0 (.cells #[.bool false, .int .u64 0, .int .u64 0] 26) #[.bool false, .int .u64 0, .int .u64 0] 26) rfl; obtain ⟨u0, u1, u2, u3, u4, u5, u6⟩ := U4.three; obtain ⟨y0, y1, y2, y3, y4, y5, y6⟩ := V4.three) | (have U4 : Blk w4 w0.heap.size #[.bool false, .int .u64 0, .int .u64 0] 26 := Blk.via hb4 (Blk.new w0 #[.bool false, .int .u64 0, .int .u64 0] 26) rfl; obtain ⟨u0, u1, u2, u3, u4, u5, u6⟩ := U4.three) | skip)
          go_wp2_with fail
          refine hK.out _ _ ?hSn5075 (fun hHeld2 => ?rest5075)
          case hSn5075 => (first | with_reducible exact R0.drew | with_reducible exact (R0.alloc _).drew | with_reducible exact ((R0.alloc _).alloc _).drew | with_reducible exact hHeld.below hb4 | with_reducible exact hHeld.below hb5 | with_reducible exact hHeld.alloc _ | with_reducible exact hHeld.far (by omega) _ _ _ | with_reducible exact K5.alloc _ | with_reducible exact (K5.alloc _).alloc _ | with_reducible exact (K5.alloc _).far (by omega) _ _ _ | with_reducible exact (K5.far (by omega) _ _ _).alloc _ | with_reducible exact ((K5.alloc _).alloc _).far (by omega) _ _ _)
          clear hK K hHeld
          have hHeld := hHeld2
          clear hHeld2
          try simp only [Act.put, List.setIfInBounds_toArray, List.set_cons_zero, List.set_cons_succ]
          refine wpAnyH_ready (rs := [3]) (by kernel_rfl) (by simp) ?rdy5076
          refine (AllReadyH.cons (List.getElem?_toArray.trans rfl) (fun K hK => ?stp5076_3) AllReadyH.nil)
          case stp5076_3 =>
            go_simp
            go_wp2_with fail
            (refine (CL.out _).mono ?_; rintro e w5 ⟨rfl, hb5⟩; have K5 := hHeld.below hb5; have s5 : w4.heap.size ≤ w5.heap.size := (by have := hb5.size; first | exact this | (simp at this; omega)); (first | (have U5 := U4.below hb5; obtain ⟨a0, a1, a2, a3, a4, a5, a6⟩ := U5.three) | (have U5 := Blk.via hb5 (U4.alloc (.cells #[.bool false, .int .u64 0, .int .u64 0] 26)) rfl; obtain ⟨a0, a1, a2, a3, a4, a5, a6⟩ := U5.three) | (have U5 := Blk.via hb5 ((U4.alloc (.cells #[.bool false, .int .u64 0, .int .u64 0] 26)).alloc (.cells #[.bool false, .int .u64 0, .int .u64 0] 26)) rfl; obtain ⟨a0, a1, a2, a3, a4, a5, a6⟩ := U5.three) | skip); (first | (have V5 := V4.below hb5; obtain ⟨b0, b1, b2, b3, b4, b5, b6⟩ := V5.three) | (have V5 := Blk.via hb5 (V4.alloc (.cells #[.bool false, .int .u64 0, .int .u64 0] 26)) rfl; obtain ⟨b0, b1, b2, b3, b4, b5, b6⟩ := V5.three) | (have V5 := Blk.via hb5 ((V4.alloc (.cells #[.bool false, .int .u64 0, .int .u64 0] 26)).alloc (.cells #[.bool false, .int .u64 0, .int .u64 0] 26)) rfl; obtain ⟨b0, b1, b2, b3, b4, b5, b6⟩ := V5.three) | skip); first | (have X5 : Blk w5 w4.heap.size #[.bool false, .int .u64 0, .int .u64 0] 26 := Blk.via hb5 ((Blk.new w4 #[.bool false, .int .u64 0, .int .u64 0] 26).alloc (.cells #[.bool false, .int .u64 0, .int .u64 0] 26)) rfl; have Y5 : Blk w5 (w4.heap.size + 1) #[.bool false, .int .u64 0, .int .u64 0] 26 := Blk.via hb5 (Blk.newB w4 (.cells #[.bool false, .int .u64 0, .int .u64 0] 26) #[.bool false, .int .u64 0, .int .u64 0] 26) rfl; obtain ⟨p0, p1, p2, p3, p4, p5, p6⟩ := X5.three; obtain ⟨q0, q1, q2, q3, q4, q5, q6⟩ := Y5.three) | (have X5 : Blk w5 w4.heap.size #[.bool false, .int .u64 0, .int .u64 0] 26 := Blk.via hb5 (Blk.new w4 #[.bool false, .int .u64 0, .int .u64 0] 26) rfl; obtain ⟨p0, p1, p2, p3, p4, p5, p6⟩ := X5.three) | skip)
            go_wp2_with fail
            refine hK.out _ _ ?hSn5077 (fun hHeld2 => ?rest5077)
            case hSn5077 => (first | with_reducible exact R0.drew | with_reducible exact (R0.alloc _).drew | with_reducible exact ((R0.alloc _).alloc _).drew | with_reducible exact hHeld.below hb4 | with_reducible exact hHeld.below hb5 | with_reducible exact hHeld.alloc _ | with_reducible exact hHeld.far (by omega) _ _ _ | with_reducible exact K5.alloc _ | with_reducible exact (K5.alloc _).alloc _ | with_reducible exact (K5.alloc _).far (by omega) _ _ _ | with_reducible exact (K5.far (by omega) _ _ _).alloc _ | with_reducible exact ((K5.alloc _).alloc _).far (by omega) _ _ _)
            clear hK K hHeld
            have hHeld := hHeld2
            clear hHeld2
            try simp only [Act.put, List.setIfInBounds_toArray, List.set_cons_zero, List.set_cons_succ]
            refine wpAnyH_ready (rs := [6]) (by kernel_rfl) (by simp) ?rdy5078
            refine (AllReadyH.cons (List.getElem?_toArray.trans rfl) (fun K hK => ?stp5078_6) AllReadyH.nil)
            case stp5078_6 =>
              go_simp
              go_wp2_with fail
              refine hK.out _ _ ?hSn5079 (fun hHeld2 => ?rest5079)
              case hSn5079 => (first | with_reducible exact R0.drew | with_reducible exact (R0.alloc _).drew | with_reducible exact ((R0.alloc _).alloc _).drew | with_reducible exact hHeld.below hb4 | with_reducible exact hHeld.below hb5 | with_reducible exact hHeld.alloc _ | with_reducible exact hHeld.far (by omega) _ _ _ | with_reducible exact K5.alloc _ | with_reducible exact (K5.alloc _).alloc _ | with_reducible exact (K5.alloc _).far (by omega) _ _ _ | with_reducible exact (K5.far (by omega) _ _ _).alloc _ | with_reducible exact ((K5.alloc _).alloc _).far (by omega) _ _ _)
              clear hK K hHeld
              have hHeld := hHeld2
              clear hHeld2
              try simp only [Act.put, List.setIfInBounds_toArray, List.set_cons_zero, List.set_cons_succ]
              refine wpAnyH_ready (rs := [7]) (by kernel_rfl) (by simp) ?rdy5080
              refine (AllReadyH.cons (List.getElem?_toArray.trans rfl) (fun K hK => ?stp5080_7) AllReadyH.nil)
              case stp5080_7 =>
                go_simp
                go_wp2_with fail
                refine hK.out _ _ ?hSn5081 (fun hHeld2 => ?rest5081)
                case hSn5081 => (first | with_reducible exact R0.drew | with_reducible exact (R0.alloc _).drew | with_reducible exact ((R0.alloc _).alloc _).drew | with_reducible exact hHeld.below hb4 | with_reducible exact hHeld.below hb5 | with_reducible exact hHeld.alloc _ | with_reducible exact hHeld.far (by omega) _ _ _ | with_reducible exact K5.alloc _ | with_reducible exact (K5.alloc _).alloc _ | with_reducible exact (K5.alloc _).far (by omega) _ _ _ | with_reducible exact (K5.far (by omega) _ _ _).alloc _ | with_reducible exact ((K5.alloc _).alloc _).far (by omega) _ _ _)
                clear hK K hHeld
                have hHeld := hHeld2
                clear hHeld2
                try simp only [Act.put, List.setIfInBounds_toArray, List.set_cons_zero, List.set_cons_succ]
                refine wpAnyH_done (by kernel_rfl) ?_ _
                go_wp2_with fail
                go_meet
                case rel => exact ⟨_, _, rfl, rfl, (by (repeat (first | with_reducible exact Blk.new _ _ _ | with_reducible exact Blk.newB _ _ _ _ | with_reducible exact Blk.news3 _ _ _ _ _ _ _ _ _ | with_reducible exact U5 | with_reducible exact V5 | with_reducible exact X5 | with_reducible exact Y5 | with_reducible refine Blk.put3 (x := .bool false) (y := .int .u64 0) (z := .int .u64 0) ?_ _ _ _ | with_reducible refine Blk.far3 ?_ (by omega) _ _ _ | with_reducible refine Blk.alloc ?_ _))), (by (repeat (first | with_reducible exact Blk.new _ _ _ | with_reducible exact Blk.newB _ _ _ _ | with_reducible exact Blk.news3 _ _ _ _ _ _ _ _ _ | with_reducible exact U5 | with_reducible exact V5 | with_reducible exact X5 | with_reducible exact Y5 | with_reducible refine Blk.put3 (x := .bool false) (y := .int .u64 0) (z := .int .u64 0) ?_ _ _ _ | with_reducible refine Blk.far3 ?_ (by omega) _ _ _ | with_reducible refine Blk.alloc ?_ _))), hHeld⟩
    case stp5004_5 =>
      go_simp
      go_wp2_with fail
      refine hK.out _ _ ?hSn5082 (fun hHeld2 => ?rest5082)
      case hSn5082 => (first | with_reducible exact R0.drew | with_reducible exact (R0.alloc _).drew | with_reducible exact ((R0.alloc _).alloc _).drew | with_reducible exact hHeld.below hb4 | with_reducible exact hHeld.below hb5 | with_reducible exact hHeld.alloc _ | with_reducible exact hHeld.far (by omega) _ _ _ | with_reducible exact K5.alloc _ | with_reducible exact (K5.alloc _).alloc _ | with_reducible exact (K5.alloc _).far (by omega) _ _ _ | with_reducible exact (K5.far (by omega) _ _ _).alloc _ | with_reducible exact ((K5.alloc _).alloc _).far (by omega) _ _ _)
      clear hK K hHeld
      have hHeld := hHeld2
      clear hHeld2
      try simp only [Act.put, List.setIfInBounds_toArray, List.set_cons_zero, List.set_cons_succ]
      refine wpAnyH_ready (rs := [1, 4]) (by kernel_rfl) (by simp) ?rdy5083
      refine (AllReadyH.cons (List.getElem?_toArray.trans rfl) (fun K hK => ?stp5083_1) (AllReadyH.cons (List.getElem?_toArray.trans rfl) (fun K hK => ?stp5083_4) AllReadyH.nil))
      case stp5083_1 =>
        go_simp
        go_wp2_with fail
        (refine (CF.out _).mono ?_; rintro e w4 ⟨rfl, hb4⟩; have s4 : w0.heap.size ≤ w4.heap.size := (by have := hb4.size; first | exact this | (simp at this; omega)); first | (have U4 : Blk w4 w0.heap.size #[.bool false, .int .u64 0, .int .u64 0] 26 := Blk.via hb4 ((Blk.new w0 #[.bool false, .int .u64 0, .int .u64 0] 26).alloc (.cells #[.bool false, .int .u64 0, .int .u64 0] 26)) rfl; have V4 : Blk w4 (w0.heap.size + 1) #[.bool false, .int .u64 0, .int .u64 0] 26 := Blk.via hb4 (Blk.newB w0 (.cells #[.bool false, .int .u64 0, .int .u64 0] 26) #[.bool false, .int .u64 0, .int .u64 0] 26) rfl; obtain ⟨u0, u1, u2, u3, u4, u5, u6⟩ := U4.three; obtain ⟨y0, y1, y2, y3, y4, y5, y6⟩ := V4.three) | (have U4 : Blk w4 w0.heap.size #[.bool false, .int .u64 0, .int .u64 0] 26 := Blk.via hb4 (Blk.new w0 #[.bool false, .int .u64 0, .int .u64 0] 26) rfl; obtain ⟨u0, u1, u2, u3, u4, u5, u6⟩ := U4.three) | skip)
        go_wp2_with fail
        refine hK.out _ _ ?hSn5084 (fun hHeld2 => ?rest5084)
        case hSn5084 => (first | with_reducible exact R0.drew | with_reducible exact (R0.alloc _).drew | with_reducible exact ((R0.alloc _).alloc _).drew | with_reducible exact hHeld.below hb4 | with_reducible exact hHeld.below hb5 | with_reducible exact hHeld.alloc _ | with_reducible exact hHeld.far (by omega) _ _ _ | with_reducible exact K5.alloc _ | with_reducible exact (K5.alloc _).alloc _ | with_reducible exact (K5.alloc _).far (by omega) _ _ _ | with_reducible exact (K5.far (by omega) _ _ _).alloc _ | with_reducible exact ((K5.alloc _).alloc _).far (by omega) _ _ _)
        clear hK K hHeld
        have hHeld := hHeld2
        clear hHeld2
        try simp only [Act.put, List.setIfInBounds_toArray, List.set_cons_zero, List.set_cons_succ]
        refine wpAnyH_ready (rs := [3, 4]) (by kernel_rfl) (by simp) ?rdy5085
        refine (AllReadyH.cons (List.getElem?_toArray.trans rfl) (fun K hK => ?stp5085_3) (AllReadyH.cons (List.getElem?_toArray.trans rfl) (fun K hK => ?stp5085_4) AllReadyH.nil))
        case stp5085_3 =>
          go_simp
          go_wp2_with fail
          (refine (CL.out _).mono ?_; rintro e w5 ⟨rfl, hb5⟩; have K5 := hHeld.below hb5; have s5 : w4.heap.size ≤ w5.heap.size := (by have := hb5.size; first | exact this | (simp at this; omega)); (first | (have U5 := U4.below hb5; obtain ⟨a0, a1, a2, a3, a4, a5, a6⟩ := U5.three) | (have U5 := Blk.via hb5 (U4.alloc (.cells #[.bool false, .int .u64 0, .int .u64 0] 26)) rfl; obtain ⟨a0, a1, a2, a3, a4, a5, a6⟩ := U5.three) | (have U5 := Blk.via hb5 ((U4.alloc (.cells #[.bool false, .int .u64 0, .int .u64 0] 26)).alloc (.cells #[.bool false, .int .u64 0, .int .u64 0] 26)) rfl; obtain ⟨a0, a1, a2, a3, a4, a5, a6⟩ := U5.three) | skip); (first | (have V5 := V4.below hb5; obtain ⟨b0, b1, b2, b3, b4, b5, b6⟩ := V5.three) | (have V5 := Blk.via hb5 (V4.alloc (.cells #[.bool false, .int .u64 0, .int .u64 0] 26)) rfl; obtain ⟨b0, b1, b2, b3, b4, b5, b6⟩ := V5.three) | (have V5 := Blk.via hb5 ((V4.alloc (.cells #[.bool false, .int .u64 0, .int .u64 0] 26)).alloc (.cells #[.bool false, .int .u64 0, .int .u64 0] 26)) rfl; obtain ⟨b0, b1, b2, b3, b4, b5, b6⟩ := V5.three) | skip); first | (have X5 : Blk w5 w4.heap.size #[.bool false, .int .u64 0, .int .u64 0] 26 := Blk.via hb5 ((Blk.new w4 #[.bool false, .int .u64 0, .int .u64 0] 26).alloc (.cells #[.bool false, .int .u64 0, .int .u64 0] 26)) rfl; have Y5 : Blk w5 (w4.heap.size + 1) #[.bool false, .int .u64 0, .int .u64 0] 26 := Blk.via hb5 (Blk.newB w4 (.cells #[.bool false, .int .u64 0, .int .u64 0] 26) #[.bool false, .int .u64 0, .int .u64 0] 26) rfl; obtain ⟨p0, p1, p2, p3, p4, p5, p6⟩ := X5.three; obtain ⟨q0, q1, q2, q3, q4, q5, q6⟩ := Y5.three) | (have X5 : Blk w5 w4.heap.size #[.bool false, .int .u64 0, .int .u64 0] 26 := Blk.via hb5 (Blk.new w4 #[.bool false, .int .u64 0, .int .u64 0] 26) rfl; obtain ⟨p0, p1, p2, p3, p4, p5, p6⟩ := X5.three) | skip)
          go_wp2_with fail
          refine hK.out _ _ ?hSn5086 (fun hHeld2 => ?rest5086)
          case hSn5086 => (first | with_reducible exact R0.drew | with_reducible exact (R0.alloc _).drew | with_reducible exact ((R0.alloc _).alloc _).drew | with_reducible exact hHeld.below hb4 | with_reducible exact hHeld.below hb5 | with_reducible exact hHeld.alloc _ | with_reducible exact hHeld.far (by omega) _ _ _ | with_reducible exact K5.alloc _ | with_reducible exact (K5.alloc _).alloc _ | with_reducible exact (K5.alloc _).far (by omega) _ _ _ | with_reducible exact (K5.far (by omega) _ _ _).alloc _ | with_reducible exact ((K5.alloc _).alloc _).far (by omega) _ _ _)
          clear hK K hHeld
          have hHeld := hHeld2
          clear hHeld2
          try simp only [Act.put, List.setIfInBounds_toArray, List.set_cons_zero, List.set_cons_succ]
          refine wpAnyH_ready (rs := [4]) (by kernel_rfl) (by simp) ?rdy5087
          refine (AllReadyH.cons (List.getElem?_toArray.trans rfl) (fun K hK => ?stp5087_4) AllReadyH.nil)
          case stp5087_4 =>
            go_simp
            go_wp2_with fail
            refine hK.out _ _ ?hSn5088 (fun hHeld2 => ?rest5088)
            case hSn5088 => (first | with_reducible exact R0.drew | with_reducible exact (R0.alloc _).drew | with_reducible exact ((R0.alloc _).alloc _).drew | with_reducible exact hHeld.below hb4 | with_reducible exact hHeld.below hb5 | with_reducible exact hHeld.alloc _ | with_reducible exact hHeld.far (by omega) _ _ _ | with_reducible exact K5.alloc _ | with_reducible exact (K5.alloc _).alloc _ | with_reducible exact (K5.alloc _).far (by omega) _ _ _ | with_reducible exact (K5.far (by omega) _ _ _).alloc _ | with_reducible exact ((K5.alloc _).alloc _).far (by omega) _ _ _)
            clear hK K hHeld
            have hHeld := hHeld2
            clear hHeld2
            try simp only [Act.put, List.setIfInBounds_toArray, List.set_cons_zero, List.set_cons_succ]
            refine wpAnyH_ready (rs := [6]) (by kernel_rfl) (by simp) ?rdy5089
            refine (AllReadyH.cons (List.getElem?_toArray.trans rfl) (fun K hK => ?stp5089_6) AllReadyH.nil)
            case stp5089_6 =>
              go_simp
              go_wp2_with fail
              refine hK.out _ _ ?hSn5090 (fun hHeld2 => ?rest5090)
              case hSn5090 => (first | with_reducible exact R0.drew | with_reducible exact (R0.alloc _).drew | with_reducible exact ((R0.alloc _).alloc _).drew | with_reducible exact hHeld.below hb4 | with_reducible exact hHeld.below hb5 | with_reducible exact hHeld.alloc _ | with_reducible exact hHeld.far (by omega) _ _ _ | with_reducible exact K5.alloc _ | with_reducible exact (K5.alloc _).alloc _ | with_reducible exact (K5.alloc _).far (by omega) _ _ _ | with_reducible exact (K5.far (by omega) _ _ _).alloc _ | with_reducible exact ((K5.alloc _).alloc _).far (by omega) _ _ _)
              clear hK K hHeld
              have hHeld := hHeld2
              clear hHeld2
              try simp only [Act.put, List.setIfInBounds_toArray, List.set_cons_zero, List.set_cons_succ]
              refine wpAnyH_ready (rs := [7]) (by kernel_rfl) (by simp) ?rdy5091
              refine (AllReadyH.cons (List.getElem?_toArray.trans rfl) (fun K hK => ?stp5091_7) AllReadyH.nil)
              case stp5091_7 =>
                go_simp
                go_wp2_with fail
                refine hK.out _ _ ?hSn5092 (fun hHeld2 => ?rest5092)
                case hSn5092 => (first | with_reducible exact R0.drew | with_reducible exact (R0.alloc _).drew | with_reducible exact ((R0.alloc _).alloc _).drew | with_reducible exact hHeld.below hb4 | with_reducible exact hHeld.below hb5 | with_reducible exact hHeld.alloc _ | with_reducible exact hHeld.far (by omega) _ _ _ | with_reducible exact K5.alloc _ | with_reducible exact (K5.alloc _).alloc _ | with_reducible exact (K5.alloc _).far (by omega) _ _ _ | with_reducible exact (K5.far (by omega) _ _ _).alloc _ | with_reducible exact ((K5.alloc _).alloc _).far (by omega) _ _ _)
                clear hK K hHeld
                have hHeld := hHeld2
                clear hHeld2
                try simp only [Act.put, List.setIfInBounds_toArray, List.set_cons_zero, List.set_cons_succ]
                refine wpAnyH_done (by kernel_rfl) ?_ _
                go_wp2_with fail
                go_meet
                case rel => exact ⟨_, _, rfl, rfl, (by (repeat (first | with_reducible exact Blk.new _ _ _ | with_reducible exact Blk.newB _ _ _ _ | with_reducible exact Blk.news3 _ _ _ _ _ _ _ _ _ | with_reducible exact U5 | with_reducible exact V5 | with_reducible exact X5 | with_reducible exact Y5 | with_reducible refine Blk.put3 (x := .bool false) (y := .int .u64 0) (z := .int .u64 0) ?_ _ _ _ | with_reducible refine Blk.far3 ?_ (by omega) _ _ _ | with_reducible refine Blk.alloc ?_ _))), (by (repeat (first | with_reducible exact Blk.new _ _ _ | with_reducible exact Blk.newB _ _ _ _ | with_reducible exact Blk.news3 _ _ _ _ _ _ _ _ _ | with_reducible exact U5 | with_reducible exact V5 | with_reducible exact X5 | with_reducible exact Y5 | with_reducible refine Blk.put3 (x := .bool false) (y := .int .u64 0) (z := .int .u64 0) ?_ _ _ _ | with_reducible refine Blk.far3 ?_ (by omega) _ _ _ | with_reducible refine Blk.alloc ?_ _))), hHeld⟩
        case stp5085_4 =>
          go_simp
          go_wp2_with fail
          refine hK.out _ _ ?hSn5093 (fun hHeld2 => ?rest5093)
          case hSn5093 => (first | with_reducible exact R0.drew | with_reducible exact (R0.alloc _).drew | with_reducible exact ((R0.alloc _).alloc _).drew | with_reducible exact hHeld.below hb4 | with_reducible exact hHeld.below hb5 | with_reducible exact hHeld.alloc _ | with_reducible exact hHeld.far (by omega) _ _ _ | with_reducible exact K5.alloc _ | with_reducible exact (K5.alloc _).alloc _ | with_reducible exact (K5.alloc _).far (by omega) _ _ _ | with_reducible exact (K5.far (by omega) _ _ _).alloc _ | with_reducible exact ((K5.alloc _).alloc _).far (by omega) _ _ _)
          clear hK K hHeld
          have hHeld := hHeld2
          clear hHeld2
          try simp only [Act.put, List.setIfInBounds_toArray, List.set_cons_zero, List.set_cons_succ]
          refine wpAnyH_ready (rs := [3]) (by kernel_rfl) (by simp) ?rdy5094
          refine (AllReadyH.cons (List.getElem?_toArray.trans rfl) (fun K hK => ?stp5094_3) AllReadyH.nil)
          case stp5094_3 =>
            go_simp
            go_wp2_with fail
            (refine (CL.out _).mono ?_; rintro e w5 ⟨rfl, hb5⟩; have K5 := hHeld.below hb5; have s5 : w4.heap.size ≤ w5.heap.size := (by have := hb5.size; first | exact this | (simp at this; omega)); (first | (have U5 := U4.below hb5; obtain ⟨a0, a1, a2, a3, a4, a5, a6⟩ := U5.three) | (have U5 := Blk.via hb5 (U4.alloc (.cells #[.bool false, .int .u64 0, .int .u64 0] 26)) rfl; obtain ⟨a0, a1, a2, a3, a4, a5, a6⟩ := U5.three) | (have U5 := Blk.via hb5 ((U4.alloc (.cells #[.bool false, .int .u64 0, .int .u64 0] 26)).alloc (.cells #[.bool false, .int .u64 0, .int .u64 0] 26)) rfl; obtain ⟨a0, a1, a2, a3, a4, a5, a6⟩ := U5.three) | skip); (first | (have V5 := V4.below hb5; obtain ⟨b0, b1, b2, b3, b4, b5, b6⟩ := V5.three) | (have V5 := Blk.via hb5 (V4.alloc (.cells #[.bool false, .int .u64 0, .int .u64 0] 26)) rfl; obtain ⟨b0, b1, b2, b3, b4, b5, b6⟩ := V5.three) | (have V5 := Blk.via hb5 ((V4.alloc (.cells #[.bool false, .int .u64 0, .int .u64 0] 26)).alloc (.cells #[.bool false, .int .u64 0, .int .u64 0] 26)) rfl; obtain ⟨b0, b1, b2, b3, b4, b5, b6⟩ := V5.three) | skip); first | (have X5 : Blk w5 w4.heap.size #[.bool false, .int .u64 0, .int .u64 0] 26 := Blk.via hb5 ((Blk.new w4 #[.bool false, .int .u64 0, .int .u64 0] 26).alloc (.cells #[.bool false, .int .u64 0, .int .u64 0] 26)) rfl; have Y5 : Blk w5 (w4.heap.size + 1) #[.bool false, .int .u64 0, .int .u64 0] 26 := Blk.via hb5 (Blk.newB w4 (.cells #[.bool false, .int .u64 0, .int .u64 0] 26) #[.bool false, .int .u64 0, .int .u64 0] 26) rfl; obtain ⟨p0, p1, p2, p3, p4, p5, p6⟩ := X5.three; obtain ⟨q0, q1, q2, q3, q4, q5, q6⟩ := Y5.three) | (have X5 : Blk w5 w4.heap.size #[.bool false, .int .u64 0, .int .u64 0] 26 := Blk.via hb5 (Blk.new w4 #[.bool false, .int .u64 0, .int .u64 0] 26) rfl; obtain ⟨p0, p1, p2, p3, p4, p5, p6⟩ := X5.three) | skip)
            go_wp2_with fail
            refine hK.out _ _ ?hSn5095 (fun hHeld2 => ?rest5095)
            case hSn5095 => (first | with_reducible exact R0.drew | with_reducible exact (R0.alloc _).drew | with_reducible exact ((R0.alloc _).alloc _).drew | with_reducible exact hHeld.below hb4 | with_reducible exact hHeld.below hb5 | with_reducible exact hHeld.alloc _ | with_reducible exact hHeld.far (by omega) _ _ _ | with_reducible exact K5.alloc _ | with_reducible exact (K5.alloc _).alloc _ | with_reducible exact (K5.alloc _).far (by omega) _ _ _ | with_reducible exact (K5.far (by omega) _ _ _).alloc _ | with_reducible exact ((K5.alloc _).alloc _).far (by omega) _ _ _)
            clear hK K hHeld
            have hHeld := hHeld2
            clear hHeld2
            try simp only [Act.put, List.setIfInBounds_toArray, List.set_cons_zero, List.set_cons_succ]
            refine wpAnyH_ready (rs := [6]) (by kernel_rfl) (by simp) ?rdy5096
            refine (AllReadyH.cons (List.getElem?_toArray.trans rfl) (fun K hK => ?stp5096_6) AllReadyH.nil)
            case stp5096_6 =>
              go_simp
              go_wp2_with fail
              refine hK.out _ _ ?hSn5097 (fun hHeld2 => ?rest5097)
              case hSn5097 => (first | with_reducible exact R0.drew | with_reducible exact (R0.alloc _).drew | with_reducible exact ((R0.alloc _).alloc _).drew | with_reducible exact hHeld.below hb4 | with_reducible exact hHeld.below hb5 | with_reducible exact hHeld.alloc _ | with_reducible exact hHeld.far (by omega) _ _ _ | with_reducible exact K5.alloc _ | with_reducible exact (K5.alloc _).alloc _ | with_reducible exact (K5.alloc _).far (by omega) _ _ _ | with_reducible exact (K5.far (by omega) _ _ _).alloc _ | with_reducible exact ((K5.alloc _).alloc _).far (by omega) _ _ _)
              clear hK K hHeld
              have hHeld := hHeld2
              clear hHeld2
              try simp only [Act.put, List.setIfInBounds_toArray, List.set_cons_zero, List.set_cons_succ]
              refine wpAnyH_ready (rs := [7]) (by kernel_rfl) (by simp) ?rdy5098
              refine (AllReadyH.cons (List.getElem?_toArray.trans rfl) (fun K hK => ?stp5098_7) AllReadyH.nil)
              case stp5098_7 =>
                go_simp
                go_wp2_with fail
                refine hK.out _ _ ?hSn5099 (fun hHeld2 => ?rest5099)
                case hSn5099 => (first | with_reducible exact R0.drew | with_reducible exact (R0.alloc _).drew | with_reducible exact ((R0.alloc _).alloc _).drew | with_reducible exact hHeld.below hb4 | with_reducible exact hHeld.below hb5 | with_reducible exact hHeld.alloc _ | with_reducible exact hHeld.far (by omega) _ _ _ | with_reducible exact K5.alloc _ | with_reducible exact (K5.alloc _).alloc _ | with_reducible exact (K5.alloc _).far (by omega) _ _ _ | with_reducible exact (K5.far (by omega) _ _ _).alloc _ | with_reducible exact ((K5.alloc _).alloc _).far (by omega) _ _ _)
                clear hK K hHeld
                have hHeld := hHeld2
                clear hHeld2
                try simp only [Act.put, List.setIfInBounds_toArray, List.set_cons_zero, List.set_cons_succ]
                refine wpAnyH_done (by kernel_rfl) ?_ _
                go_wp2_with fail
                go_meet
                case rel => exact ⟨_, _, rfl, rfl, (by (repeat (first | with_reducible exact Blk.new _ _ _ | with_reducible exact Blk.newB _ _ _ _ | with_reducible exact Blk.news3 _ _ _ _ _ _ _ _ _ | with_reducible exact U5 | with_reducible exact V5 | with_reducible exact X5 | with_reducible exact Y5 | with_reducible refine Blk.put3 (x := .bool false) (y := .int .u64 0) (z := .int .u64 0) ?_ _ _ _ | with_reducible refine Blk.far3 ?_ (by omega) _ _ _ | with_reducible refine Blk.alloc ?_ _))), (by (repeat (first | with_reducible exact Blk.new _ _ _ | with_reducible exact Blk.newB _ _ _ _ | with_reducible exact Blk.news3 _ _ _ _ _ _ _ _ _ | with_reducible exact U5 | with_reducible exact V5 | with_reducible exact X5 | with_reducible exact Y5 | with_reducible refine Blk.put3 (x := .bool false) (y := .int .u64 0) (z := .int .u64 0) ?_ _ _ _ | with_reducible refine Blk.far3 ?_ (by omega) _ _ _ | with_reducible refine Blk.alloc ?_ _))), hHeld⟩
      case stp5083_4 =>
        go_simp
        go_wp2_with fail
        refine hK.out _ _ ?hSn5100 (fun hHeld2 => ?rest5100)
        case hSn5100 => (first | with_reducible exact R0.drew | with_reducible exact (R0.alloc _).drew | with_reducible exact ((R0.alloc _).alloc _).drew | with_reducible exact hHeld.below hb4 | with_reducible exact hHeld.below hb5 | with_reducible exact hHeld.alloc _ | with_reducible exact hHeld.far (by omega) _ _ _ | with_reducible exact K5.alloc _ | with_reducible exact (K5.alloc _).alloc _ | with_reducible exact (K5.alloc _).far (by omega) _ _ _ | with_reducible exact (K5.far (by omega) _ _ _).alloc _ | with_reducible exact ((K5.alloc _).alloc _).far (by omega) _ _ _)
        clear hK K hHeld
        have hHeld := hHeld2
        clear hHeld2
        try simp only [Act.put, List.setIfInBounds_toArray, List.set_cons_zero, List.set_cons_succ]
        refine wpAnyH_ready (rs := [1]) (by kernel_rfl) (by simp) ?rdy5101
        refine (AllReadyH.cons (List.getElem?_toArray.trans rfl) (fun K hK => ?stp5101_1) AllReadyH.nil)
        case stp5101_1 =>
          go_simp
          go_wp2_with fail
          (refine (CF.out _).mono ?_; rintro e w4 ⟨rfl, hb4⟩; have s4 : w0.heap.size ≤ w4.heap.size := (by have := hb4.size; first | exact this | (simp at this; omega)); first | (have U4 : Blk w4 w0.heap.size #[.bool false, .int .u64 0, .int .u64 0] 26 := Blk.via hb4 ((Blk.new w0 #[.bool false, .int .u64 0, .int .u64 0] 26).alloc (.cells #[.bool false, .int .u64 0, .int .u64 0] 26)) rfl; have V4 : Blk w4 (w0.heap.size + 1) #[.bool false, .int .u64 0, .int .u64 0] 26 := Blk.via hb4 (Blk.newB w0 (.cells #[.bool false, .int .u64 0, .int .u64 0] 26) #[.bool false, .int .u64 0, .int .u64 0] 26) rfl; obtain ⟨u0, u1, u2, u3, u4, u5, u6⟩ := U4.three; obtain ⟨y0, y1, y2, y3, y4, y5, y6⟩ := V4.three) | (have U4 : Blk w4 w0.heap.size #[.bool false, .int .u64 0, .int .u64 0] 26 := Blk.via hb4 (Blk.new w0 #[.bool false, .int .u64 0, .int .u64 0] 26) rfl; obtain ⟨u0, u1, u2, u3, u4, u5, u6⟩ := U4.three) | skip)
          go_wp2_with fail
          refine hK.out _ _ ?hSn5102 (fun hHeld2 => ?rest5102)
          case hSn5102 => (first | with_reducible exact R0.drew | with_reducible exact (R0.alloc _).drew | with_reducible exact ((R0.alloc _).alloc _).drew | with_reducible exact hHeld.below hb4 | with_reducible exact hHeld.below hb5 | with_reducible exact hHeld.alloc _ | with_reducible exact hHeld.far (by omega) _ _ _ | with_reducible exact K5.alloc _ | with_reducible exact (K5.alloc _).alloc _ | with_reducible exact (K5.alloc _).far (by omega) _ _ _ | with_reducible exact (K5.far (by omega) _ _ _).alloc _ | with_reducible exact ((K5.alloc _).alloc _).far (by omega) _ _ _)
          clear hK K hHeld
          have hHeld := hHeld2
          clear hHeld2
          try simp only [Act.put, List.setIfInBounds_toArray, List.set_cons_zero, List.set_cons_succ]
          refine wpAnyH_ready (rs := [3]) (by kernel_rfl) (by simp) ?rdy5103
          refine (AllReadyH.cons (List.getElem?_toArray.trans rfl) (fun K hK => ?stp5103_3) AllReadyH.nil)
          case stp5103_3 =>
            go_simp
            go_wp2_with fail
            (refine (CL.out _).mono ?_; rintro e w5 ⟨rfl, hb5⟩; have K5 := hHeld.below hb5; have s5 : w4.heap.size ≤ w5.heap.size := (by have := hb5.size; first | exact this | (simp at this; omega)); (first | (have U5 := U4.below hb5; obtain ⟨a0, a1, a2, a3, a4, a5, a6⟩ := U5.three) | (have U5 := Blk.via hb5 (U4.alloc (.cells #[.bool false, .int .u64 0, .int .u64 0] 26)) rfl; obtain ⟨a0, a1, a2, a3, a4, a5, a6⟩ := U5.three) | (have U5 := Blk.via hb5 ((U4.alloc (.cells #[.bool false, .int .u64 0, .int .u64 0] 26)).alloc (.cells #[.bool false, .int .u64 0, .int .u64 0] 26)) rfl; obtain ⟨a0, a1, a2, a3, a4, a5, a6⟩ := U5.three) | skip); (first | (have V5 := V4.below hb5; obtain ⟨b0, b1, b2, b3, b4, b5, b6⟩ := V5.three) | (have V5 := Blk.via hb5 (V4.alloc (.cells #[.bool false, .int .u64 0, .int .u64 0] 26)) rfl; obtain ⟨b0, b1, b2, b3, b4, b5, b6⟩ := V5.three) | (have V5 := Blk.via hb5 ((V4.alloc (.cells #[.bool false, .int .u64 0, .int .u64 0] 26)).alloc (.cells #[.bool false, .int .u64 0, .int .u64 0] 26)) rfl; obtain ⟨b0, b1, b2, b3, b4, b5, b6⟩ := V5.three) | skip); first | (have X5 : Blk w5 w4.heap.size #[.bool false, .int .u64 0, .int .u64 0] 26 := Blk.via hb5 ((Blk.new w4 #[.bool false, .int .u64 0, .int .u64 0] 26).alloc (.cells #[.bool false, .int .u64 0, .int .u64 0] 26)) rfl; have Y5 : Blk w5 (w4.heap.size + 1) #[.bool false, .int .u64 0, .int .u64 0] 26 := Blk.via hb5 (Blk.newB w4 (.cells #[.bool false, .int .u64 0, .int .u64 0] 26) #[.bool false, .int .u64 0, .int .u64 0] 26) rfl; obtain ⟨p0, p1, p2, p3, p4, p5, p6⟩ := X5.three; obtain ⟨q0, q1, q2, q3, q4, q5, q6⟩ := Y5.three) | (have X5 : Blk w5 w4.heap.size #[.bool false, .int .u64 0, .int .u64 0] 26 := Blk.via hb5 (Blk.new w4 #[.bool false, .int .u64 0, .int .u64 0] 26) rfl; obtain ⟨p0, p1, p2, p3, p4, p5, p6⟩ := X5.three) | skip)
            go_wp2_with fail
            refine hK.out _ _ ?hSn5104 (fun hHeld2 => ?rest5104)
            case hSn5104 => (first | with_reducible exact R0.drew | with_reducible exact (R0.alloc _).drew | with_reducible exact ((R0.alloc _).alloc _).drew | with_reducible exact hHeld.below hb4 | with_reducible exact hHeld.below hb5 | with_reducible exact hHeld.alloc _ | with_reducible exact hHeld.far (by omega) _ _ _ | with_reducible exact K5.alloc _ | with_reducible exact (K5.alloc _).alloc _ | with_reducible exact (K5.alloc _).far (by omega) _ _ _ | with_reducible exact (K5.far (by omega) _ _ _).alloc _ | with_reducible exact ((K5.alloc _).alloc _).far (by omega) _ _ _)
            clear hK K hHeld
            have hHeld := hHeld2
            clear hHeld2
            try simp only [Act.put, List.setIfInBounds_toArray, List.set_cons_zero, List.set_cons_succ]
            refine wpAnyH_ready (rs := [6]) (by kernel_rfl) (by simp) ?rdy5105
            refine (AllReadyH.cons (List.getElem?_toArray.trans rfl) (fun K hK => ?stp5105_6) AllReadyH.nil)
            case stp5105_6 =>
              go_simp
              go_wp2_with fail
              refine hK.out _ _ ?hSn5106 (fun hHeld2 => ?rest5106)
              case hSn5106 => (first | with_reducible exact R0.drew | with_reducible exact (R0.alloc _).drew | with_reducible exact ((R0.alloc _).alloc _).drew | with_reducible exact hHeld.below hb4 | with_reducible exact hHeld.below hb5 | with_reducible exact hHeld.alloc _ | with_reducible exact hHeld.far (by omega) _ _ _ | with_reducible exact K5.alloc _ | with_reducible exact (K5.alloc _).alloc _ | with_reducible exact (K5.alloc _).far (by omega) _ _ _ | with_reducible exact (K5.far (by omega) _ _ _).alloc _ | with_reducible exact ((K5.alloc _).alloc _).far (by omega) _ _ _)
              clear hK K hHeld
              have hHeld := hHeld2
              clear hHeld2
              try simp only [Act.put, List.setIfInBounds_toArray, List.set_cons_zero, List.set_cons_succ]
              refine wpAnyH_ready (rs := [7]) (by kernel_rfl) (by simp) ?rdy5107
              refine (AllReadyH.cons (List.getElem?_toArray.trans rfl) (fun K hK => ?stp5107_7) AllReadyH.nil)
              case stp5107_7 =>
                go_simp
                go_wp2_with fail
                refine hK.out _ _ ?hSn5108 (fun hHeld2 => ?rest5108)
                case hSn5108 => (first | with_reducible exact R0.drew | with_reducible exact (R0.alloc _).drew | with_reducible exact ((R0.alloc _).alloc _).drew | with_reducible exact hHeld.below hb4 | with_reducible exact hHeld.below hb5 | with_reducible exact hHeld.alloc _ | with_reducible exact hHeld.far (by omega) _ _ _ | with_reducible exact K5.alloc _ | with_reducible exact (K5.alloc _).alloc _ | with_reducible exact (K5.alloc _).far (by omega) _ _ _ | with_reducible exact (K5.far (by omega) _ _ _).alloc _ | with_reducible exact ((K5.alloc _).alloc _).far (by omega) _ _ _)
                clear hK K hHeld
                have hHeld := hHeld2
                clear hHeld2
                try simp only [Act.put, List.setIfInBounds_toArray, List.set_cons_zero, List.set_cons_succ]
                refine wpAnyH_done (by kernel_rfl) ?_ _
                go_wp2_with fail
                go_meet
                case rel => exact ⟨_, _, rfl, rfl, (by (repeat (first | with_reducible exact Blk.new _ _ _ | with_reducible exact Blk.newB _ _ _ _ | with_reducible exact Blk.news3 _ _ _ _ _ _ _ _ _ | with_reducible exact U5 | with_reducible exact V5 | with_reducible exact X5 | with_reducible exact Y5 | with_reducible refine Blk.put3 (x := .bool false) (y := .int .u64 0) (z := .int .u64 0) ?_ _ _ _ | with_reducible refine Blk.far3 ?_ (by omega) _ _ _ | with_reducible refine Blk.alloc ?_ _))), (by (repeat (first | with_reducible exact Blk.new _ _ _ | with_reducible exact Blk.newB _ _ _ _ | with_reducible exact Blk.news3 _ _ _ _ _ _ _ _ _ | with_reducible exact U5 | with_reducible exact V5 | with_reducible exact X5 | with_reducible exact Y5 | with_reducible refine Blk.put3 (x := .bool false) (y := .int .u64 0) (z := .int .u64 0) ?_ _ _ _ | with_reducible refine Blk.far3 ?_ (by omega) _ _ _ | with_reducible refine Blk.alloc ?_ _))), hHeld⟩
  case rest =>
    obtain ⟨X, Y, rfl, rfl, KX, KY, RR⟩ := hcut
    have R := BT.of RR.2 KX KY
    clear R0 CF CL KX KY RR hs0
    have F := R.1
    go_wp2_with fail
    refine (C1.out _).mono ?_
    rintro e w1 ⟨m, rfl, hm, hb⟩
    replace R := R.below hb
    replace F := R.1
    have hm' : ¬ m < 0 := by rw [hm.out, cmpI_neg]; have := HC.out; omega
    clear hb C1 hm
    go_wp2_with fail
    refine (C2.out _).mono ?_
    rintro e w2 ⟨m2, rfl, hm2, hb⟩
    replace R := R.below hb
    replace F := R.1
    have hm2' : ¬ m2 < 0 := by rw [hm2.out, cmpI_neg]; have := HC.out; omega
    clear hb C2 hm2
    go_wp2_with fail
    refine (C3.out _).mono ?_
    rintro e w3 ⟨m3, rfl, hm3, hb⟩
    replace R := R.below hb
    replace F := R.1
    have hm3' : m3 ≤ 0 := by rw [hm3.out, cmpI_le]; have := HC.out; omega
    clear hb C3 hm3
    go_wp2_with fail
    refine (C4.out _).mono ?_
    rintro e w4 ⟨m4, rfl, hm4, hb⟩
    replace R := R.below hb
    replace F := R.1
    have hm4' : m4 ≤ 0 := by rw [hm4.out, cmpI_le]; have := HC.out; omega
    clear hb C4 hm4
    have hb4 := R.2.1.2.2.2
    have hown4 := own_kept hown hb4
    have hs4 := hb4.size
    have N4 := four_new w4 (.bool v) (.int .u64 h) (.int .u64 l) (.int .i64 b) 28
    have hone : ∀ u ∈ [Value.bool v, .int .u64 h, .int .u64 l, .int .i64 b], u.oneCell' = true := by
      intro u hu
      simp at hu
      rcases hu with rfl | rfl | rfl | rfl <;> rfl
    go_wp2_with (first | (at_builtin; refine wpList_append_own_at _ rfl _ _ 64 rfl B 28 i0 (.agg #[.bool false, .int .u64 0, .int .u64 0, .int .i64 0]) 4 32 Tryz.underlying64 hi hz0 hz1 hz2 rfl (by decide) _ _ _ rfl (hown4.alloc _) ⟨w4.heap.size, 0, none⟩ 1 1 [.bool v, .int .u64 h, .int .u64 l, .int .i64 b] rfl rfl N4 hone ?c3 ?c4 ?c5 ?_))
    case c3 => unfold maxLen; omega
    case c4 => omega
    case c5 => simp; omega
    intro v' w5 hown5 hgrow _ hat
    have hf : SpOut B v W w val cnt xs [(n, behindP v b)] v' w5 := by
      refine ⟨?_, grown_after (hb4.alloc hs4 _) hgrow, ?_⟩
      · rw [HX.out]; exact hown5
      · rcases hat with q | q
        · exact Or.inl q
        · exact Or.inr ⟨_, q, by first | omega | (simp; omega)⟩
    clear R F N4 hone hown4 hown5 hgrow hat hown HX HC
    go_wp2
    go_ret
    exact ⟨_, rfl, hf⟩

theorem SpOut.trans {B : Nat} {v : Bool} {W : Nat} {w w1 w2 w3 : World} {val val1 val2 : Value} {cnt : Nat} {xs : List Value} {l r : List (Nat × Nat)} (hb : Below w.heap.size w w1) (x : SpOut B v W w1 val cnt xs l val1 w2) (y : SpOut B v W w2 val1 (cnt + l.length) (xs ++ cellsL v W l) r val2 w3) : SpOut B v W w val cnt xs (l ++ r) val2 w3 := by
  obtain ⟨x1, x2, x3⟩ := x
  obtain ⟨y1, y2, y3⟩ := y
  have g1 := grown_after hb x2
  refine ⟨?_, ⟨y2.os.trans g1.os, y2.tape.trans g1.tape, y2.output.trans g1.output, Nat.le_trans g1.size y2.size, fun k hk hne => (y2.block k (Nat.lt_of_lt_of_le hk g1.size) ?_).trans (g1.block k hk hne)⟩, ?_⟩
  · rw [cellsL_append, List.length_append, ← Nat.add_assoc, ← List.append_assoc]; exact y1
  · rcases x3 with q | ⟨g, q, hg⟩
    · rw [q]; exact hne
    · rw [q]
      intro e
      have := hb.size
      injection e with e
      omega
  · have s1 := hb.size
    have s2 := g1.size
    rcases y3 with q | ⟨g, q, hg⟩
    · rcases x3 with p | ⟨g, p, hg⟩
      · exact Or.inl (q.trans p)
      · exact Or.inr ⟨g, q.trans p, by omega⟩
    · exact Or.inr ⟨g, q, by omega⟩

/-- What the second call of itself reads. -/
def U3 (w : World) (Y : Nat) (v : Bool) (rh rl b ah al zh zl : Int) (W : World) : Prop :=
  (W.cell? ⟨w.heap.size + 1, 0, none⟩ = some (.bool v) ∧ W.cell? ⟨w.heap.size + 1, 1, none⟩ = some (.int .u64 ah) ∧ W.cell? ⟨w.heap.size + 1, 2, none⟩ = some (.int .u64 al) ∧ W.cell? ⟨w.heap.size + 1 + 1, 0, none⟩ = some (.bool v) ∧ W.cell? ⟨w.heap.size + 1 + 1, 1, none⟩ = some (.int .u64 zh) ∧ W.cell? ⟨w.heap.size + 1 + 1, 2, none⟩ = some (.int .u64 zl) ∧ W.cell? ⟨Y, 0, none⟩ = some (.bool v) ∧ W.cell? ⟨Y, 1, none⟩ = some (.int .u64 rh) ∧ W.cell? ⟨Y, 2, none⟩ = some (.int .u64 rl) ∧ W.cell? ⟨Y, 3, none⟩ = some (.int .i64 b))

set_option maxRecDepth 100000 in
set_option maxHeartbeats 3200000 in
theorem between_part {v : Bool} {h l b ah al zh zl : Int} {n a z W : Nat} (hW : widthA v = (W : Nat)) (hp : IsNum h l n) (ha : IsNum ah al a) (hz : IsNum zh zl z) (hk : okP v n b = true) (B : Nat) (val : Value) (cnt : Nat) (xs : List Value) (w : World) (hown : w.ownsRow B 28 4 val cnt xs) (hB : B ≤ w.heap.size) (hbW : b < widthA v) {rh rl : Int} (hr : IsNum rh rl (n + 2 ^ (behindP v b - 1))) {L1 L2 : List (Nat × Nat)} (h1 : ¬ (lastN v n b < a ∨ z < n)) (h2 : ¬ (a ≤ n ∧ lastN v n b ≤ z))
    (I1 : Hid (∀ w1 : World, w1.ownsRow B 28 4 val cnt xs → B ≤ w1.heap.size → Calls Tryz.prog 85 #[val, pv v h l (b + 1), av v ah al, av v zh zl] w1 fun e w2 => ∃ val', e = .returned val' ∧ SpOut B v W w1 val cnt xs L1 val' w2))
    (I2 : Hid (∀ (val1 : Value) (w1 : World), w1.ownsRow B 28 4 val1 (cnt + L1.length) (xs ++ cellsL v W L1) → B ≤ w1.heap.size → Calls Tryz.prog 85 #[val1, pv v rh rl (b + 1), av v ah al, av v zh zl] w1 fun e w2 => ∃ val', e = .returned val' ∧ SpOut B v W w1 val1 (cnt + L1.length) (xs ++ cellsL v W L1) L2 val' w2)) :
    Calls Tryz.prog 85 #[val, pv v h l b, av v ah al, av v zh zl] w fun e w' => ∃ val', e = .returned val' ∧ SpOut B v W w val cnt xs (L1 ++ L2) val' w' := by
  obtain ⟨l1, l2⟩ := lastN_small hk hp.lt
  obtain ⟨eh, el, he⟩ := IsNum.ex l1
  have CF : Hid (∀ w', Calls Tryz.prog 16 #[pv v h l b] w' fun e w1 => e = .returned (av v h l) ∧ Below w'.heap.size w' w1) := fun w' => first_c hp (Or.inl ⟨hk, rfl, rfl, rfl⟩) w'
  have CL : Hid (∀ w', Calls Tryz.prog 17 #[pv v h l b] w' fun e w1 => e = .returned (av v eh el) ∧ Below w'.heap.size w' w1) := fun w' => last_ok hp hk he w'
  have C1 : Hid (∀ w', Calls Tryz.prog 15 #[av v eh el, av v ah al] w' fun e w1 => ∃ m : Int, e = .returned (.int .i64 m) ∧ Hid (m = cmpI (lastN v n b : Nat) (a : Nat)) ∧ Below w'.heap.size w' w1) := fun w' => cmp_one he ha w'
  have C2 : Hid (∀ w', Calls Tryz.prog 15 #[av v zh zl, av v h l] w' fun e w1 => ∃ m : Int, e = .returned (.int .i64 m) ∧ Hid (m = cmpI (z : Nat) (n : Nat)) ∧ Below w'.heap.size w' w1) := fun w' => cmp_one hz hp w'
  have C3 : Hid (∀ w', Calls Tryz.prog 15 #[av v ah al, av v h l] w' fun e w1 => ∃ m : Int, e = .returned (.int .i64 m) ∧ Hid (m = cmpI (a : Nat) (n : Nat)) ∧ Below w'.heap.size w' w1) := fun w' => cmp_one ha hp w'
  have C4 : Hid (∀ w', Calls Tryz.prog 15 #[av v eh el, av v zh zl] w' fun e w1 => ∃ m : Int, e = .returned (.int .i64 m) ∧ Hid (m = cmpI (lastN v n b : Nat) (z : Nat)) ∧ Below w'.heap.size w' w1) := fun w' => cmp_one he hz w'
  have CH : Hid (∀ w', Calls Tryz.prog 12 #[pv v h l b] w' fun e w1 => e = .returned (.tuple #[pv v h l (b + 1), pv v rh rl (b + 1), .int .i64 0]) ∧ Below w'.heap.size w' w1) := fun w' => half_ok hp hk hbW hr w'
  have HC : Hid ((¬ lastN v n b < a) ∧ (¬ z < n) ∧ ¬ (a ≤ n ∧ lastN v n b ≤ z)) := ⟨fun q => h1 (Or.inl q), fun q => h1 (Or.inr q), h2⟩
  have HO : Hid (w.ownsRow B 28 4 val cnt xs) := hown
  have R0 := BS.of (K3.start w v h l b ah al zh zl)
  obtain ⟨w0, hw0⟩ : ∃ w0, w0 = ((w.alloc (.cells #[.bool v, .int .u64 h, .int .u64 l, .int .i64 b] 28)).alloc (.cells #[.bool v, .int .u64 ah, .int .u64 al] 26)).alloc (.cells #[.bool v, .int .u64 zh, .int .u64 zl] 26) := ⟨_, rfl⟩
  rw [← hw0] at R0
  have hs0 := R0.2.2.2.1.lt
  clear hp ha hz he hk l1 l2 h1 h2 hW hr hbW hown
  go_enter Tryz.func85, Tryz.ntmps85
  go_upto_region 1 with fail
  rw [← hw0]
  clear hw0
  go_cut [9, 10] (fun p q wc => ∃ X Y : Nat, p = .pointer (some ⟨X, 0, none⟩) ∧ q = .pointer (some ⟨Y, 0, none⟩) ∧ Blk wc X #[.bool v, .int .u64 h, .int .u64 l] 26 ∧ Blk wc Y #[.bool v, .int .u64 eh, .int .u64 el] 26 ∧ BS w v h l b ah al zh zl wc)
  case first =>
    refine wp_region_held_drew (S := (BS w v h l b ah al zh zl)) (by kernel_rfl) ?hS5109 (fun hHeld => ?rest5109)
    case hS5109 => (first | with_reducible exact R0.drew | with_reducible exact (R0.alloc _).drew | with_reducible exact ((R0.alloc _).alloc _).drew | with_reducible exact hHeld.below hb4 | with_reducible exact hHeld.below hb5 | with_reducible exact hHeld.alloc _ | with_reducible exact hHeld.far (by omega) _ _ _ | with_reducible exact K5.alloc _ | with_reducible exact (K5.alloc _).alloc _ | with_reducible exact (K5.alloc _).far (by omega) _ _ _ | with_reducible exact (K5.far (by omega) _ _ _).alloc _ | with_reducible exact ((K5.alloc _).alloc _).far (by omega) _ _ _)
    refine wpAnyH_take (i := 0) (oi := _) (v := ?v5110) (List.getElem?_toArray.trans rfl) (by kernel_rfl) (by kernel_rfl) (by kernel_rfl) (fun _ _ _ h => h) (Or.inl ⟨by rfl, ?hy5110⟩) (by assumption) ?rest5110
    case hy5110 => (intro wq hSw; (try simp only [Two, BS] at hSw); go_simp; try with_reducible rfl)
    try simp only [Act.put, List.setIfInBounds_toArray, List.set_cons_zero, List.set_cons_succ]
    refine wpAnyH_take (i := 2) (oi := _) (v := ?v5111) (List.getElem?_toArray.trans rfl) (by kernel_rfl) (by kernel_rfl) (by kernel_rfl) (fun _ _ _ h => h) (Or.inl ⟨by rfl, ?hy5111⟩) (by assumption) ?rest5111
    case hy5111 => (intro wq hSw; (try simp only [Two, BS] at hSw); go_simp; try with_reducible rfl)
    try simp only [Act.put, List.setIfInBounds_toArray, List.set_cons_zero, List.set_cons_succ]
    refine wpAnyH_ready (rs := [1, 4, 5]) (by kernel_rfl) (by simp) ?rdy5112
    refine (AllReadyH.cons (List.getElem?_toArray.trans rfl) (fun K hK => ?stp5112_1) (AllReadyH.cons (List.getElem?_toArray.trans rfl) (fun K hK => ?stp5112_4) (AllReadyH.cons (List.getElem?_toArray.trans rfl) (fun K hK => ?stp5112_5) AllReadyH.nil)))
    case stp5112_1 =>
      go_simp
      go_wp2_with fail
      (refine (CF.out _).mono ?_; rintro e w4 ⟨rfl, hb4⟩; have s4 : w0.heap.size ≤ w4.heap.size := (by have := hb4.size; first | exact this | (simp at this; omega)); first | (have U4 : Blk w4 w0.heap.size #[.bool false, .int .u64 0, .int .u64 0] 26 := Blk.via hb4 ((Blk.new w0 #[.bool false, .int .u64 0, .int .u64 0] 26).alloc (.cells #[.bool false, .int .u64 0, .int .u64 0] 26)) rfl; have V4 : Blk w4 (w0.heap.size + 1) #[.bool false, .int .u64 0, .int .u64 0] 26 := Blk.via hb4 (Blk.newB w0 (.cells #[.bool false, .int .u64 0, .int .u64 0] 26) #[.bool false, .int .u64 0, .int .u64 0] 26) rfl; obtain ⟨u0, u1, u2, u3, u4, u5, u6⟩ := U4.three; obtain ⟨y0, y1, y2, y3, y4, y5, y6⟩ := V4.three) | (have U4 : Blk w4 w0.heap.size #[.bool false, .int .u64 0, .int .u64 0] 26 := Blk.via hb4 (Blk.new w0 #[.bool false, .int .u64 0, .int .u64 0] 26) rfl; obtain ⟨u0, u1, u2, u3, u4, u5, u6⟩ := U4.three) | skip)
      go_wp2_with fail
      refine hK.out _ _ ?hSn5113 (fun hHeld2 => ?rest5113)
      case hSn5113 => (first | with_reducible exact R0.drew | with_reducible exact (R0.alloc _).drew | with_reducible exact ((R0.alloc _).alloc _).drew | with_reducible exact hHeld.below hb4 | with_reducible exact hHeld.below hb5 | with_reducible exact hHeld.alloc _ | with_reducible exact hHeld.far (by omega) _ _ _ | with_reducible exact K5.alloc _ | with_reducible exact (K5.alloc _).alloc _ | with_reducible exact (K5.alloc _).far (by omega) _ _ _ | with_reducible exact (K5.far (by omega) _ _ _).alloc _ | with_reducible exact ((K5.alloc _).alloc _).far (by omega) _ _ _)
      clear hK K hHeld
      have hHeld := hHeld2
      clear hHeld2
      try simp only [Act.put, List.setIfInBounds_toArray, List.set_cons_zero, List.set_cons_succ]
      refine wpAnyH_ready (rs := [3, 4, 5]) (by kernel_rfl) (by simp) ?rdy5114
      refine (AllReadyH.cons (List.getElem?_toArray.trans rfl) (fun K hK => ?stp5114_3) (AllReadyH.cons (List.getElem?_toArray.trans rfl) (fun K hK => ?stp5114_4) (AllReadyH.cons (List.getElem?_toArray.trans rfl) (fun K hK => ?stp5114_5) AllReadyH.nil)))
      case stp5114_3 =>
        go_simp
        go_wp2_with fail
        (refine (CL.out _).mono ?_; rintro e w5 ⟨rfl, hb5⟩; have K5 := hHeld.below hb5; have s5 : w4.heap.size ≤ w5.heap.size := (by have := hb5.size; first | exact this | (simp at this; omega)); (first | (have U5 := U4.below hb5; obtain ⟨a0, a1, a2, a3, a4, a5, a6⟩ := U5.three) | (have U5 := Blk.via hb5 (U4.alloc (.cells #[.bool false, .int .u64 0, .int .u64 0] 26)) rfl; obtain ⟨a0, a1, a2, a3, a4, a5, a6⟩ := U5.three) | (have U5 := Blk.via hb5 ((U4.alloc (.cells #[.bool false, .int .u64 0, .int .u64 0] 26)).alloc (.cells #[.bool false, .int .u64 0, .int .u64 0] 26)) rfl; obtain ⟨a0, a1, a2, a3, a4, a5, a6⟩ := U5.three) | skip); (first | (have V5 := V4.below hb5; obtain ⟨b0, b1, b2, b3, b4, b5, b6⟩ := V5.three) | (have V5 := Blk.via hb5 (V4.alloc (.cells #[.bool false, .int .u64 0, .int .u64 0] 26)) rfl; obtain ⟨b0, b1, b2, b3, b4, b5, b6⟩ := V5.three) | (have V5 := Blk.via hb5 ((V4.alloc (.cells #[.bool false, .int .u64 0, .int .u64 0] 26)).alloc (.cells #[.bool false, .int .u64 0, .int .u64 0] 26)) rfl; obtain ⟨b0, b1, b2, b3, b4, b5, b6⟩ := V5.three) | skip); first | (have X5 : Blk w5 w4.heap.size #[.bool false, .int .u64 0, .int .u64 0] 26 := Blk.via hb5 ((Blk.new w4 #[.bool false, .int .u64 0, .int .u64 0] 26).alloc (.cells #[.bool false, .int .u64 0, .int .u64 0] 26)) rfl; have Y5 : Blk w5 (w4.heap.size + 1) #[.bool false, .int .u64 0, .int .u64 0] 26 := Blk.via hb5 (Blk.newB w4 (.cells #[.bool false, .int .u64 0, .int .u64 0] 26) #[.bool false, .int .u64 0, .int .u64 0] 26) rfl; obtain ⟨p0, p1, p2, p3, p4, p5, p6⟩ := X5.three; obtain ⟨q0, q1, q2, q3, q4, q5, q6⟩ := Y5.three) | (have X5 : Blk w5 w4.heap.size #[.bool false, .int .u64 0, .int .u64 0] 26 := Blk.via hb5 (Blk.new w4 #[.bool false, .int .u64 0, .int .u64 0] 26) rfl; obtain ⟨p0, p1, p2, p3, p4, p5, p6⟩ := X5.three) | skip)
        go_wp2_with fail
        refine hK.out _ _ ?hSn5115 (fun hHeld2 => ?rest5115)
        case hSn5115 => (first | with_reducible exact R0.drew | with_reducible exact (R0.alloc _).drew | with_reducible exact ((R0.alloc _).alloc _).drew | with_reducible exact hHeld.below hb4 | with_reducible exact hHeld.below hb5 | with_reducible exact hHeld.alloc _ | with_reducible exact hHeld.far (by omega) _ _ _ | with_reducible exact K5.alloc _ | with_reducible exact (K5.alloc _).alloc _ | with_reducible exact (K5.alloc _).far (by omega) _ _ _ | with_reducible exact (K5.far (by omega) _ _ _).alloc _ | with_reducible exact ((K5.alloc _).alloc _).far (by omega) _ _ _)
        clear hK K hHeld
        have hHeld := hHeld2
        clear hHeld2
        try simp only [Act.put, List.setIfInBounds_toArray, List.set_cons_zero, List.set_cons_succ]
        refine wpAnyH_ready (rs := [4, 5]) (by kernel_rfl) (by simp) ?rdy5116
        refine (AllReadyH.cons (List.getElem?_toArray.trans rfl) (fun K hK => ?stp5116_4) (AllReadyH.cons (List.getElem?_toArray.trans rfl) (fun K hK => ?stp5116_5) AllReadyH.nil))
        case stp5116_4 =>
          go_simp
          go_wp2_with fail
          refine hK.out _ _ ?hSn5117 (fun hHeld2 => ?rest5117)
          case hSn5117 => (first | with_reducible exact R0.drew | with_reducible exact (R0.alloc _).drew | with_reducible exact ((R0.alloc _).alloc _).drew | with_reducible exact hHeld.below hb4 | with_reducible exact hHeld.below hb5 | with_reducible exact hHeld.alloc _ | with_reducible exact hHeld.far (by omega) _ _ _ | with_reducible exact K5.alloc _ | with_reducible exact (K5.alloc _).alloc _ | with_reducible exact (K5.alloc _).far (by omega) _ _ _ | with_reducible exact (K5.far (by omega) _ _ _).alloc _ | with_reducible exact ((K5.alloc _).alloc _).far (by omega) _ _ _)
          clear hK K hHeld
          have hHeld := hHeld2
          clear hHeld2
          try simp only [Act.put, List.setIfInBounds_toArray, List.set_cons_zero, List.set_cons_succ]
          refine wpAnyH_ready (rs := [5]) (by kernel_rfl) (by simp) ?rdy5118
          refine (AllReadyH.cons (List.getElem?_toArray.trans rfl) (fun K hK => ?stp5118_5) AllReadyH.nil)
          case stp5118_5 =>
            go_simp
            go_wp2_with fail
            refine hK.out _ _ ?hSn5119 (fun hHeld2 => ?rest5119)
            case hSn5119 => (first | with_reducible exact R0.drew | with_reducible exact (R0.alloc _).drew | with_reducible exact ((R0.alloc _).alloc _).drew | with_reducible exact hHeld.below hb4 | with_reducible exact hHeld.below hb5 | with_reducible exact hHeld.alloc _ | with_reducible exact hHeld.far (by omega) _ _ _ | with_reducible exact K5.alloc _ | with_reducible exact (K5.alloc _).alloc _ | with_reducible exact (K5.alloc _).far (by omega) _ _ _ | with_reducible exact (K5.far (by omega) _ _ _).alloc _ | with_reducible exact ((K5.alloc _).alloc _).far (by omega) _ _ _)
            clear hK K hHeld
            have hHeld := hHeld2
            clear hHeld2
            try simp only [Act.put, List.setIfInBounds_toArray, List.set_cons_zero, List.set_cons_succ]
            refine wpAnyH_ready (rs := [6]) (by kernel_rfl) (by simp) ?rdy5120
            refine (AllReadyH.cons (List.getElem?_toArray.trans rfl) (fun K hK => ?stp5120_6) AllReadyH.nil)
            case stp5120_6 =>
              go_simp
              go_wp2_with fail
              refine hK.out _ _ ?hSn5121 (fun hHeld2 => ?rest5121)
              case hSn5121 => (first | with_reducible exact R0.drew | with_reducible exact (R0.alloc _).drew | with_reducible exact ((R0.alloc _).alloc _).drew | with_reducible exact hHeld.below hb4 | with_reducible exact hHeld.below hb5 | with_reducible exact hHeld.alloc _ | with_reducible exact hHeld.far (by omega) _ _ _ | with_reducible exact K5.alloc _ | with_reducible exact (K5.alloc _).alloc _ | with_reducible exact (K5.alloc _).far (by omega) _ _ _ | with_reducible exact (K5.far (by omega) _ _ _).alloc _ | with_reducible exact ((K5.alloc _).alloc _).far (by omega) _ _ _)
              clear hK K hHeld
              have hHeld := hHeld2
              clear hHeld2
              try simp only [Act.put, List.setIfInBounds_toArray, List.set_cons_zero, List.set_cons_succ]
              refine wpAnyH_ready (rs := [7]) (by kernel_rfl) (by simp) ?rdy5122
              refine (AllReadyH.cons (List.getElem?_toArray.trans rfl) (fun K hK => ?stp5122_7) AllReadyH.nil)
              case stp5122_7 =>
                go_simp
                go_wp2_with fail
                refine hK.out _ _ ?hSn5123 (fun hHeld2 => ?rest5123)
                case hSn5123 => (first | with_reducible exact R0.drew | with_reducible exact (R0.alloc _).drew | with_reducible exact ((R0.alloc _).alloc _).drew | with_reducible exact hHeld.below hb4 | with_reducible exact hHeld.below hb5 | with_reducible exact hHeld.alloc _ | with_reducible exact hHeld.far (by omega) _ _ _ | with_reducible exact K5.alloc _ | with_reducible exact (K5.alloc _).alloc _ | with_reducible exact (K5.alloc _).far (by omega) _ _ _ | with_reducible exact (K5.far (by omega) _ _ _).alloc _ | with_reducible exact ((K5.alloc _).alloc _).far (by omega) _ _ _)
                clear hK K hHeld
                have hHeld := hHeld2
                clear hHeld2
                try simp only [Act.put, List.setIfInBounds_toArray, List.set_cons_zero, List.set_cons_succ]
                refine wpAnyH_done (by kernel_rfl) ?_ _
                go_wp2_with fail
                go_meet
                case rel => exact ⟨_, _, rfl, rfl, (by (repeat (first | with_reducible exact Blk.new _ _ _ | with_reducible exact Blk.newB _ _ _ _ | with_reducible exact Blk.news3 _ _ _ _ _ _ _ _ _ | with_reducible exact U5 | with_reducible exact V5 | with_reducible exact X5 | with_reducible exact Y5 | with_reducible refine Blk.put3 (x := .bool false) (y := .int .u64 0) (z := .int .u64 0) ?_ _ _ _ | with_reducible refine Blk.far3 ?_ (by omega) _ _ _ | with_reducible refine Blk.alloc ?_ _))), (by (repeat (first | with_reducible exact Blk.new _ _ _ | with_reducible exact Blk.newB _ _ _ _ | with_reducible exact Blk.news3 _ _ _ _ _ _ _ _ _ | with_reducible exact U5 | with_reducible exact V5 | with_reducible exact X5 | with_reducible exact Y5 | with_reducible refine Blk.put3 (x := .bool false) (y := .int .u64 0) (z := .int .u64 0) ?_ _ _ _ | with_reducible refine Blk.far3 ?_ (by omega) _ _ _ | with_reducible refine Blk.alloc ?_ _))), hHeld⟩
        case stp5116_5 =>
          go_simp
          go_wp2_with fail
          refine hK.out _ _ ?hSn5124 (fun hHeld2 => ?rest5124)
          case hSn5124 => (first | with_reducible exact R0.drew | with_reducible exact (R0.alloc _).drew | with_reducible exact ((R0.alloc _).alloc _).drew | with_reducible exact hHeld.below hb4 | with_reducible exact hHeld.below hb5 | with_reducible exact hHeld.alloc _ | with_reducible exact hHeld.far (by omega) _ _ _ | with_reducible exact K5.alloc _ | with_reducible exact (K5.alloc _).alloc _ | with_reducible exact (K5.alloc _).far (by omega) _ _ _ | with_reducible exact (K5.far (by omega) _ _ _).alloc _ | with_reducible exact ((K5.alloc _).alloc _).far (by omega) _ _ _)
          clear hK K hHeld
          have hHeld := hHeld2
          clear hHeld2
          try simp only [Act.put, List.setIfInBounds_toArray, List.set_cons_zero, List.set_cons_succ]
          refine wpAnyH_ready (rs := [4]) (by kernel_rfl) (by simp) ?rdy5125
          refine (AllReadyH.cons (List.getElem?_toArray.trans rfl) (fun K hK => ?stp5125_4) AllReadyH.nil)
          case stp5125_4 =>
            go_simp
            go_wp2_with fail
            refine hK.out _ _ ?hSn5126 (fun hHeld2 => ?rest5126)
            case hSn5126 => (first | with_reducible exact R0.drew | with_reducible exact (R0.alloc _).drew | with_reducible exact ((R0.alloc _).alloc _).drew | with_reducible exact hHeld.below hb4 | with_reducible exact hHeld.below hb5 | with_reducible exact hHeld.alloc _ | with_reducible exact hHeld.far (by omega) _ _ _ | with_reducible exact K5.alloc _ | with_reducible exact (K5.alloc _).alloc _ | with_reducible exact (K5.alloc _).far (by omega) _ _ _ | with_reducible exact (K5.far (by omega) _ _ _).alloc _ | with_reducible exact ((K5.alloc _).alloc _).far (by omega) _ _ _)
            clear hK K hHeld
            have hHeld := hHeld2
            clear hHeld2
            try simp only [Act.put, List.setIfInBounds_toArray, List.set_cons_zero, List.set_cons_succ]
            refine wpAnyH_ready (rs := [6]) (by kernel_rfl) (by simp) ?rdy5127
            refine (AllReadyH.cons (List.getElem?_toArray.trans rfl) (fun K hK => ?stp5127_6) AllReadyH.nil)
            case stp5127_6 =>
              go_simp
              go_wp2_with fail
              refine hK.out _ _ ?hSn5128 (fun hHeld2 => ?rest5128)
              case hSn5128 => (first | with_reducible exact R0.drew | with_reducible exact (R0.alloc _).drew | with_reducible exact ((R0.alloc _).alloc _).drew | with_reducible exact hHeld.below hb4 | with_reducible exact hHeld.below hb5 | with_reducible exact hHeld.alloc _ | with_reducible exact hHeld.far (by omega) _ _ _ | with_reducible exact K5.alloc _ | with_reducible exact (K5.alloc _).alloc _ | with_reducible exact (K5.alloc _).far (by omega) _ _ _ | with_reducible exact (K5.far (by omega) _ _ _).alloc _ | with_reducible exact ((K5.alloc _).alloc _).far (by omega) _ _ _)
              clear hK K hHeld
              have hHeld := hHeld2
              clear hHeld2
              try simp only [Act.put, List.setIfInBounds_toArray, List.set_cons_zero, List.set_cons_succ]
              refine wpAnyH_ready (rs := [7]) (by kernel_rfl) (by simp) ?rdy5129
              refine (AllReadyH.cons (List.getElem?_toArray.trans rfl) (fun K hK => ?stp5129_7) AllReadyH.nil)
              case stp5129_7 =>
                go_simp
                go_wp2_with fail
                refine hK.out _ _ ?hSn5130 (fun hHeld2 => ?rest5130)
                case hSn5130 => (first | with_reducible exact R0.drew | with_reducible exact (R0.alloc _).drew | with_reducible exact ((R0.alloc _).alloc _).drew | with_reducible exact hHeld.below hb4 | with_reducible exact hHeld.below hb5 | with_reducible exact hHeld.alloc _ | with_reducible exact hHeld.far (by omega) _ _ _ | with_reducible exact K5.alloc _ | with_reducible exact (K5.alloc _).alloc _ | with_reducible exact (K5.alloc _).far (by omega) _ _ _ | with_reducible exact (K5.far (by omega) _ _ _).alloc _ | with_reducible exact ((K5.alloc _).alloc _).far (by omega) _ _ _)
                clear hK K hHeld
                have hHeld := hHeld2
                clear hHeld2
                try simp only [Act.put, List.setIfInBounds_toArray, List.set_cons_zero, List.set_cons_succ]
                refine wpAnyH_done (by kernel_rfl) ?_ _
                go_wp2_with fail
                go_meet
                case rel => exact ⟨_, _, rfl, rfl, (by (repeat (first | with_reducible exact Blk.new _ _ _ | with_reducible exact Blk.newB _ _ _ _ | with_reducible exact Blk.news3 _ _ _ _ _ _ _ _ _ | with_reducible exact U5 | with_reducible exact V5 | with_reducible exact X5 | with_reducible exact Y5 | with_reducible refine Blk.put3 (x := .bool false) (y := .int .u64 0) (z := .int .u64 0) ?_ _ _ _ | with_reducible refine Blk.far3 ?_ (by omega) _ _ _ | with_reducible refine Blk.alloc ?_ _))), (by (repeat (first | with_reducible exact Blk.new _ _ _ | with_reducible exact Blk.newB _ _ _ _ | with_reducible exact Blk.news3 _ _ _ _ _ _ _ _ _ | with_reducible exact U5 | with_reducible exact V5 | with_reducible exact X5 | with_reducible exact Y5 | with_reducible refine Blk.put3 (x := .bool false) (y := .int .u64 0) (z := .int .u64 0) ?_ _ _ _ | with_reducible refine Blk.far3 ?_ (by omega) _ _ _ | with_reducible refine Blk.alloc ?_ _))), hHeld⟩
      case stp5114_4 =>
        go_simp
        go_wp2_with fail
        refine hK.out _ _ ?hSn5131 (fun hHeld2 => ?rest5131)
        case hSn5131 => (first | with_reducible exact R0.drew | with_reducible exact (R0.alloc _).drew | with_reducible exact ((R0.alloc _).alloc _).drew | with_reducible exact hHeld.below hb4 | with_reducible exact hHeld.below hb5 | with_reducible exact hHeld.alloc _ | with_reducible exact hHeld.far (by omega) _ _ _ | with_reducible exact K5.alloc _ | with_reducible exact (K5.alloc _).alloc _ | with_reducible exact (K5.alloc _).far (by omega) _ _ _ | with_reducible exact (K5.far (by omega) _ _ _).alloc _ | with_reducible exact ((K5.alloc _).alloc _).far (by omega) _ _ _)
        clear hK K hHeld
        have hHeld := hHeld2
        clear hHeld2
        try simp only [Act.put, List.setIfInBounds_toArray, List.set_cons_zero, List.set_cons_succ]
        refine wpAnyH_ready (rs := [3, 5]) (by kernel_rfl) (by simp) ?rdy5132
        refine (AllReadyH.cons (List.getElem?_toArray.trans rfl) (fun K hK => ?stp5132_3) (AllReadyH.cons (List.getElem?_toArray.trans rfl) (fun K hK => ?stp5132_5) AllReadyH.nil))
        case stp5132_3 =>
          go_simp
          go_wp2_with fail
          (refine (CL.out _).mono ?_; rintro e w5 ⟨rfl, hb5⟩; have K5 := hHeld.below hb5; have s5 : w4.heap.size ≤ w5.heap.size := (by have := hb5.size; first | exact this | (simp at this; omega)); (first | (have U5 := U4.below hb5; obtain ⟨a0, a1, a2, a3, a4, a5, a6⟩ := U5.three) | (have U5 := Blk.via hb5 (U4.alloc (.cells #[.bool false, .int .u64 0, .int .u64 0] 26)) rfl; obtain ⟨a0, a1, a2, a3, a4, a5, a6⟩ := U5.three) | (have U5 := Blk.via hb5 ((U4.alloc (.cells #[.bool false, .int .u64 0, .int .u64 0] 26)).alloc (.cells #[.bool false, .int .u64 0, .int .u64 0] 26)) rfl; obtain ⟨a0, a1, a2, a3, a4, a5, a6⟩ := U5.three) | skip); (first | (have V5 := V4.below hb5; obtain ⟨b0, b1, b2, b3, b4, b5, b6⟩ := V5.three) | (have V5 := Blk.via hb5 (V4.alloc (.cells #[.bool false, .int .u64 0, .int .u64 0] 26)) rfl; obtain ⟨b0, b1, b2, b3, b4, b5, b6⟩ := V5.three) | (have V5 := Blk.via hb5 ((V4.alloc (.cells #[.bool false, .int .u64 0, .int .u64 0] 26)).alloc (.cells #[.bool false, .int .u64 0, .int .u64 0] 26)) rfl; obtain ⟨b0, b1, b2, b3, b4, b5, b6⟩ := V5.three) | skip); first | (have X5 : Blk w5 w4.heap.size #[.bool false, .int .u64 0, .int .u64 0] 26 := Blk.via hb5 ((Blk.new w4 #[.bool false, .int .u64 0, .int .u64 0] 26).alloc (.cells #[.bool false, .int .u64 0, .int .u64 0] 26)) rfl; have Y5 : Blk w5 (w4.heap.size + 1) #[.bool false, .int .u64 0, .int .u64 0] 26 := Blk.via hb5 (Blk.newB w4 (.cells #[.bool false, .int .u64 0, .int .u64 0] 26) #[.bool false, .int .u64 0, .int .u64 0] 26) rfl; obtain ⟨p0, p1, p2, p3, p4, p5, p6⟩ := X5.three; obtain ⟨q0, q1, q2, q3, q4, q5, q6⟩ := Y5.three) | (have X5 : Blk w5 w4.heap.size #[.bool false, .int .u64 0, .int .u64 0] 26 := Blk.via hb5 (Blk.new w4 #[.bool false, .int .u64 0, .int .u64 0] 26) rfl; obtain ⟨p0, p1, p2, p3, p4, p5, p6⟩ := X5.three) | skip)
          go_wp2_with fail
          refine hK.out _ _ ?hSn5133 (fun hHeld2 => ?rest5133)
          case hSn5133 => (first | with_reducible exact R0.drew | with_reducible exact (R0.alloc _).drew | with_reducible exact ((R0.alloc _).alloc _).drew | with_reducible exact hHeld.below hb4 | with_reducible exact hHeld.below hb5 | with_reducible exact hHeld.alloc _ | with_reducible exact hHeld.far (by omega) _ _ _ | with_reducible exact K5.alloc _ | with_reducible exact (K5.alloc _).alloc _ | with_reducible exact (K5.alloc _).far (by omega) _ _ _ | with_reducible exact (K5.far (by omega) _ _ _).alloc _ | with_reducible exact ((K5.alloc _).alloc _).far (by omega) _ _ _)
          clear hK K hHeld
          have hHeld := hHeld2
          clear hHeld2
          try simp only [Act.put, List.setIfInBounds_toArray, List.set_cons_zero, List.set_cons_succ]
          refine wpAnyH_ready (rs := [5]) (by kernel_rfl) (by simp) ?rdy5134
          refine (AllReadyH.cons (List.getElem?_toArray.trans rfl) (fun K hK => ?stp5134_5) AllReadyH.nil)
          case stp5134_5 =>
            go_simp
            go_wp2_with fail
            refine hK.out _ _ ?hSn5135 (fun hHeld2 => ?rest5135)
            case hSn5135 => (first | with_reducible exact R0.drew | with_reducible exact (R0.alloc _).drew | with_reducible exact ((R0.alloc _).alloc _).drew | with_reducible exact hHeld.below hb4 | with_reducible exact hHeld.below hb5 | with_reducible exact hHeld.alloc _ | with_reducible exact hHeld.far (by omega) _ _ _ | with_reducible exact K5.alloc _ | with_reducible exact (K5.alloc _).alloc _ | with_reducible exact (K5.alloc _).far (by omega) _ _ _ | with_reducible exact (K5.far (by omega) _ _ _).alloc _ | with_reducible exact ((K5.alloc _).alloc _).far (by omega) _ _ _)
            clear hK K hHeld
            have hHeld := hHeld2
            clear hHeld2
            try simp only [Act.put, List.setIfInBounds_toArray, List.set_cons_zero, List.set_cons_succ]
            refine wpAnyH_ready (rs := [6]) (by kernel_rfl) (by simp) ?rdy5136
            refine (AllReadyH.cons (List.getElem?_toArray.trans rfl) (fun K hK => ?stp5136_6) AllReadyH.nil)
            case stp5136_6 =>
              go_simp
              go_wp2_with fail
              refine hK.out _ _ ?hSn5137 (fun hHeld2 => ?rest5137)
              case hSn5137 => (first | with_reducible exact R0.drew | with_reducible exact (R0.alloc _).drew | with_reducible exact ((R0.alloc _).alloc _).drew | with_reducible exact hHeld.below hb4 | with_reducible exact hHeld.below hb5 | with_reducible exact hHeld.alloc _ | with_reducible exact hHeld.far (by omega) _ _ _ | with_reducible exact K5.alloc _ | with_reducible exact (K5.alloc _).alloc _ | with_reducible exact (K5.alloc _).far (by omega) _ _ _ | with_reducible exact (K5.far (by omega) _ _ _).alloc _ | with_reducible exact ((K5.alloc _).alloc _).far (by omega) _ _ _)
              clear hK K hHeld
              have hHeld := hHeld2
              clear hHeld2
              try simp only [Act.put, List.setIfInBounds_toArray, List.set_cons_zero, List.set_cons_succ]
              refine wpAnyH_ready (rs := [7]) (by kernel_rfl) (by simp) ?rdy5138
              refine (AllReadyH.cons (List.getElem?_toArray.trans rfl) (fun K hK => ?stp5138_7) AllReadyH.nil)
              case stp5138_7 =>
                go_simp
                go_wp2_with fail
                refine hK.out _ _ ?hSn5139 (fun hHeld2 => ?rest5139)
                case hSn5139 => (first | with_reducible exact R0.drew | with_reducible exact (R0.alloc _).drew | with_reducible exact ((R0.alloc _).alloc _).drew | with_reducible exact hHeld.below hb4 | with_reducible exact hHeld.below hb5 | with_reducible exact hHeld.alloc _ | with_reducible exact hHeld.far (by omega) _ _ _ | with_reducible exact K5.alloc _ | with_reducible exact (K5.alloc _).alloc _ | with_reducible exact (K5.alloc _).far (by omega) _ _ _ | with_reducible exact (K5.far (by omega) _ _ _).alloc _ | with_reducible exact ((K5.alloc _).alloc _).far (by omega) _ _ _)
                clear hK K hHeld
                have hHeld := hHeld2
                clear hHeld2
                try simp only [Act.put, List.setIfInBounds_toArray, List.set_cons_zero, List.set_cons_succ]
                refine wpAnyH_done (by kernel_rfl) ?_ _
                go_wp2_with fail
                go_meet
                case rel => exact ⟨_, _, rfl, rfl, (by (repeat (first | with_reducible exact Blk.new _ _ _ | with_reducible exact Blk.newB _ _ _ _ | with_reducible exact Blk.news3 _ _ _ _ _ _ _ _ _ | with_reducible exact U5 | with_reducible exact V5 | with_reducible exact X5 | with_reducible exact Y5 | with_reducible refine Blk.put3 (x := .bool false) (y := .int .u64 0) (z := .int .u64 0) ?_ _ _ _ | with_reducible refine Blk.far3 ?_ (by omega) _ _ _ | with_reducible refine Blk.alloc ?_ _))), (by (repeat (first | with_reducible exact Blk.new _ _ _ | with_reducible exact Blk.newB _ _ _ _ | with_reducible exact Blk.news3 _ _ _ _ _ _ _ _ _ | with_reducible exact U5 | with_reducible exact V5 | with_reducible exact X5 | with_reducible exact Y5 | with_reducible refine Blk.put3 (x := .bool false) (y := .int .u64 0) (z := .int .u64 0) ?_ _ _ _ | with_reducible refine Blk.far3 ?_ (by omega) _ _ _ | with_reducible refine Blk.alloc ?_ _))), hHeld⟩
        case stp5132_5 =>
          go_simp
          go_wp2_with fail
          refine hK.out _ _ ?hSn5140 (fun hHeld2 => ?rest5140)
          case hSn5140 => (first | with_reducible exact R0.drew | with_reducible exact (R0.alloc _).drew | with_reducible exact ((R0.alloc _).alloc _).drew | with_reducible exact hHeld.below hb4 | with_reducible exact hHeld.below hb5 | with_reducible exact hHeld.alloc _ | with_reducible exact hHeld.far (by omega) _ _ _ | with_reducible exact K5.alloc _ | with_reducible exact (K5.alloc _).alloc _ | with_reducible exact (K5.alloc _).far (by omega) _ _ _ | with_reducible exact (K5.far (by omega) _ _ _).alloc _ | with_reducible exact ((K5.alloc _).alloc _).far (by omega) _ _ _)
          clear hK K hHeld
          have hHeld := hHeld2
          clear hHeld2
          try simp only [Act.put, List.setIfInBounds_toArray, List.set_cons_zero, List.set_cons_succ]
          refine wpAnyH_ready (rs := [3]) (by kernel_rfl) (by simp) ?rdy5141
          refine (AllReadyH.cons (List.getElem?_toArray.trans rfl) (fun K hK => ?stp5141_3) AllReadyH.nil)
          case stp5141_3 =>
            go_simp
            go_wp2_with fail
            (refine (CL.out _).mono ?_; rintro e w5 ⟨rfl, hb5⟩; have K5 := hHeld.below hb5; have s5 : w4.heap.size ≤ w5.heap.size := (by have := hb5.size; first | exact this | (simp at this; omega)); (first | (have U5 := U4.below hb5; obtain ⟨a0, a1, a2, a3, a4, a5, a6⟩ := U5.three) | (have U5 := Blk.via hb5 (U4.alloc (.cells #[.bool false, .int .u64 0, .int .u64 0] 26)) rfl; obtain ⟨a0, a1, a2, a3, a4, a5, a6⟩ := U5.three) | (have U5 := Blk.via hb5 ((U4.alloc (.cells #[.bool false, .int .u64 0, .int .u64 0] 26)).alloc (.cells #[.bool false, .int .u64 0, .int .u64 0] 26)) rfl; obtain ⟨a0, a1, a2, a3, a4, a5, a6⟩ := U5.three) | skip); (first | (have V5 := V4.below hb5; obtain ⟨b0, b1, b2, b3, b4, b5, b6⟩ := V5.three) | (have V5 := Blk.via hb5 (V4.alloc (.cells #[.bool false, .int .u64 0, .int .u64 0] 26)) rfl; obtain ⟨b0, b1, b2, b3, b4, b5, b6⟩ := V5.three) | (have V5 := Blk.via hb5 ((V4.alloc (.cells #[.bool false, .int .u64 0, .int .u64 0] 26)).alloc (.cells #[.bool false, .int .u64 0, .int .u64 0] 26)) rfl; obtain ⟨b0, b1, b2, b3, b4, b5, b6⟩ := V5.three) | skip); first | (have X5 : Blk w5 w4.heap.size #[.bool false, .int .u64 0, .int .u64 0] 26 := Blk.via hb5 ((Blk.new w4 #[.bool false, .int .u64 0, .int .u64 0] 26).alloc (.cells #[.bool false, .int .u64 0, .int .u64 0] 26)) rfl; have Y5 : Blk w5 (w4.heap.size + 1) #[.bool false, .int .u64 0, .int .u64 0] 26 := Blk.via hb5 (Blk.newB w4 (.cells #[.bool false, .int .u64 0, .int .u64 0] 26) #[.bool false, .int .u64 0, .int .u64 0] 26) rfl; obtain ⟨p0, p1, p2, p3, p4, p5, p6⟩ := X5.three; obtain ⟨q0, q1, q2, q3, q4, q5, q6⟩ := Y5.three) | (have X5 : Blk w5 w4.heap.size #[.bool false, .int .u64 0, .int .u64 0] 26 := Blk.via hb5 (Blk.new w4 #[.bool false, .int .u64 0, .int .u64 0] 26) rfl; obtain ⟨p0, p1, p2, p3, p4, p5, p6⟩ := X5.three) | skip)
            go_wp2_with fail
            refine hK.out _ _ ?hSn5142 (fun hHeld2 => ?rest5142)
            case hSn5142 => (first | with_reducible exact R0.drew | with_reducible exact (R0.alloc _).drew | with_reducible exact ((R0.alloc _).alloc _).drew | with_reducible exact hHeld.below hb4 | with_reducible exact hHeld.below hb5 | with_reducible exact hHeld.alloc _ | with_reducible exact hHeld.far (by omega) _ _ _ | with_reducible exact K5.alloc _ | with_reducible exact (K5.alloc _).alloc _ | with_reducible exact (K5.alloc _).far (by omega) _ _ _ | with_reducible exact (K5.far (by omega) _ _ _).alloc _ | with_reducible exact ((K5.alloc _).alloc _).far (by omega) _ _ _)
            clear hK K hHeld
            have hHeld := hHeld2
            clear hHeld2
            try simp only [Act.put, List.setIfInBounds_toArray, List.set_cons_zero, List.set_cons_succ]
            refine wpAnyH_ready (rs := [6]) (by kernel_rfl) (by simp) ?rdy5143
            refine (AllReadyH.cons (List.getElem?_toArray.trans rfl) (fun K hK => ?stp5143_6) AllReadyH.nil)
            case stp5143_6 =>
              go_simp
              go_wp2_with fail
              refine hK.out _ _ ?hSn5144 (fun hHeld2 => ?rest5144)
              case hSn5144 => (first | with_reducible exact R0.drew | with_reducible exact (R0.alloc _).drew | with_reducible exact ((R0.alloc _).alloc _).drew | with_reducible exact hHeld.below hb4 | with_reducible exact hHeld.below hb5 | with_reducible exact hHeld.alloc _ | with_reducible exact hHeld.far (by omega) _ _ _ | with_reducible exact K5.alloc _ | with_reducible exact (K5.alloc _).alloc _ | with_reducible exact (K5.alloc _).far (by omega) _ _ _ | with_reducible exact (K5.far (by omega) _ _ _).alloc _ | with_reducible exact ((K5.alloc _).alloc _).far (by omega) _ _ _)
              clear hK K hHeld
              have hHeld := hHeld2
              clear hHeld2
              try simp only [Act.put, List.setIfInBounds_toArray, List.set_cons_zero, List.set_cons_succ]
              refine wpAnyH_ready (rs := [7]) (by kernel_rfl) (by simp) ?rdy5145
              refine (AllReadyH.cons (List.getElem?_toArray.trans rfl) (fun K hK => ?stp5145_7) AllReadyH.nil)
              case stp5145_7 =>
                go_simp
                go_wp2_with fail
                refine hK.out _ _ ?hSn5146 (fun hHeld2 => ?rest5146)
                case hSn5146 => (first | with_reducible exact R0.drew | with_reducible exact (R0.alloc _).drew | with_reducible exact ((R0.alloc _).alloc _).drew | with_reducible exact hHeld.below hb4 | with_reducible exact hHeld.below hb5 | with_reducible exact hHeld.alloc _ | with_reducible exact hHeld.far (by omega) _ _ _ | with_reducible exact K5.alloc _ | with_reducible exact (K5.alloc _).alloc _ | with_reducible exact (K5.alloc _).far (by omega) _ _ _ | with_reducible exact (K5.far (by omega) _ _ _).alloc _ | with_reducible exact ((K5.alloc _).alloc _).far (by omega) _ _ _)
                clear hK K hHeld
                have hHeld := hHeld2
                clear hHeld2
                try simp only [Act.put, List.setIfInBounds_toArray, List.set_cons_zero, List.set_cons_succ]
                refine wpAnyH_done (by kernel_rfl) ?_ _
                go_wp2_with fail
                go_meet
                case rel => exact ⟨_, _, rfl, rfl, (by (repeat (first | with_reducible exact Blk.new _ _ _ | with_reducible exact Blk.newB _ _ _ _ | with_reducible exact Blk.news3 _ _ _ _ _ _ _ _ _ | with_reducible exact U5 | with_reducible exact V5 | with_reducible exact X5 | with_reducible exact Y5 | with_reducible refine Blk.put3 (x := .bool false) (y := .int .u64 0) (z := .int .u64 0) ?_ _ _ _ | with_reducible refine Blk.far3 ?_ (by omega) _ _ _ | with_reducible refine Blk.alloc ?_ _))), (by (repeat (first | with_reducible exact Blk.new _ _ _ | with_reducible exact Blk.newB _ _ _ _ | with_reducible exact Blk.news3 _ _ _ _ _ _ _ _ _ | with_reducible exact U5 | with_reducible exact V5 | with_reducible exact X5 | with_reducible exact Y5 | with_reducible refine Blk.put3 (x := .bool false) (y := .int .u64 0) (z := .int .u64 0) ?_ _ _ _ | with_reducible refine Blk.far3 ?_ (by omega) _ _ _ | with_reducible refine Blk.alloc ?_ _))), hHeld⟩
      case stp5114_5 =>
        go_simp
        go_wp2_with fail
        refine hK.out _ _ ?hSn5147 (fun hHeld2 => ?rest5147)
        case hSn5147 => (first | with_reducible exact R0.drew | with_reducible exact (R0.alloc _).drew | with_reducible exact ((R0.alloc _).alloc _).drew | with_reducible exact hHeld.below hb4 | with_reducible exact hHeld.below hb5 | with_reducible exact hHeld.alloc _ | with_reducible exact hHeld.far (by omega) _ _ _ | with_reducible exact K5.alloc _ | with_reducible exact (K5.alloc _).alloc _ | with_reducible exact (K5.alloc _).far (by omega) _ _ _ | with_reducible exact (K5.far (by omega) _ _ _).alloc _ | with_reducible exact ((K5.alloc _).alloc _).far (by omega) _ _ _)
        clear hK K hHeld
        have hHeld := hHeld2
        clear hHeld2
        try simp only [Act.put, List.setIfInBounds_toArray, List.set_cons_zero, List.set_cons_succ]
        refine wpAnyH_ready (rs := [3, 4]) (by kernel_rfl) (by simp) ?rdy5148
        refine (AllReadyH.cons (List.getElem?_toArray.trans rfl) (fun K hK => ?stp5148_3) (AllReadyH.cons (List.getElem?_toArray.trans rfl) (fun K hK => ?stp5148_4) AllReadyH.nil))
        case stp5148_3 =>
          go_simp
          go_wp2_with fail
          (refine (CL.out _).mono ?_; rintro e w5 ⟨rfl, hb5⟩; have K5 := hHeld.below hb5; have s5 : w4.heap.size ≤ w5.heap.size := (by have := hb5.size; first | exact this | (simp at this; omega)); (first | (have U5 := U4.below hb5; obtain ⟨a0, a1, a2, a3, a4, a5, a6⟩ := U5.three) | (have U5 := Blk.via hb5 (U4.alloc (.cells #[.bool false, .int .u64 0, .int .u64 0] 26)) rfl; obtain ⟨a0, a1, a2, a3, a4, a5, a6⟩ := U5.three) | (have U5 := Blk.via hb5 ((U4.alloc (.cells #[.bool false, .int .u64 0, .int .u64 0] 26)).alloc (.cells #[.bool false, .int .u64 0, .int .u64 0] 26)) rfl; obtain ⟨a0, a1, a2, a3, a4, a5, a6⟩ := U5.three) | skip); (first | (have V5 := V4.below hb5; obtain ⟨b0, b1, b2, b3, b4, b5, b6⟩ := V5.three) | (have V5 := Blk.via hb5 (V4.alloc (.cells #[.bool false, .int .u64 0, .int .u64 0] 26)) rfl; obtain ⟨b0, b1, b2, b3, b4, b5, b6⟩ := V5.three) | (have V5 := Blk.via hb5 ((V4.alloc (.cells #[.bool false, .int .u64 0, .int .u64 0] 26)).alloc (.cells #[.bool false, .int .u64 0, .int .u64 0] 26)) rfl; obtain ⟨b0, b1, b2, b3, b4, b5, b6⟩ := V5.three) | skip); first | (have X5 : Blk w5 w4.heap.size #[.bool false, .int .u64 0, .int .u64 0] 26 := Blk.via hb5 ((Blk.new w4 #[.bool false, .int .u64 0, .int .u64 0] 26).alloc (.cells #[.bool false, .int .u64 0, .int .u64 0] 26)) rfl; have Y5 : Blk w5 (w4.heap.size + 1) #[.bool false, .int .u64 0, .int .u64 0] 26 := Blk.via hb5 (Blk.newB w4 (.cells #[.bool false, .int .u64 0, .int .u64 0] 26) #[.bool false, .int .u64 0, .int .u64 0] 26) rfl; obtain ⟨p0, p1, p2, p3, p4, p5, p6⟩ := X5.three; obtain ⟨q0, q1, q2, q3, q4, q5, q6⟩ := Y5.three) | (have X5 : Blk w5 w4.heap.size #[.bool false, .int .u64 0, .int .u64 0] 26 := Blk.via hb5 (Blk.new w4 #[.bool false, .int .u64 0, .int .u64 0] 26) rfl; obtain ⟨p0, p1, p2, p3, p4, p5, p6⟩ := X5.three) | skip)
          go_wp2_with fail
          refine hK.out _ _ ?hSn5149 (fun hHeld2 => ?rest5149)
          case hSn5149 => (first | with_reducible exact R0.drew | with_reducible exact (R0.alloc _).drew | with_reducible exact ((R0.alloc _).alloc _).drew | with_reducible exact hHeld.below hb4 | with_reducible exact hHeld.below hb5 | with_reducible exact hHeld.alloc _ | with_reducible exact hHeld.far (by omega) _ _ _ | with_reducible exact K5.alloc _ | with_reducible exact (K5.alloc _).alloc _ | with_reducible exact (K5.alloc _).far (by omega) _ _ _ | with_reducible exact (K5.far (by omega) _ _ _).alloc _ | with_reducible exact ((K5.alloc _).alloc _).far (by omega) _ _ _)
          clear hK K hHeld
          have hHeld := hHeld2
          clear hHeld2
          try simp only [Act.put, List.setIfInBounds_toArray, List.set_cons_zero, List.set_cons_succ]
          refine wpAnyH_ready (rs := [4]) (by kernel_rfl) (by simp) ?rdy5150
          refine (AllReadyH.cons (List.getElem?_toArray.trans rfl) (fun K hK => ?stp5150_4) AllReadyH.nil)
          case stp5150_4 =>
            go_simp
            go_wp2_with fail
            refine hK.out _ _ ?hSn5151 (fun hHeld2 => ?rest5151)
            case hSn5151 => (first | with_reducible exact R0.drew | with_reducible exact (R0.alloc _).drew | with_reducible exact ((R0.alloc _).alloc _).drew | with_reducible exact hHeld.below hb4 | with_reducible exact hHeld.below hb5 | with_reducible exact hHeld.alloc _ | with_reducible exact hHeld.far (by omega) _ _ _ | with_reducible exact K5.alloc _ | with_reducible exact (K5.alloc _).alloc _ | with_reducible exact (K5.alloc _).far (by omega) _ _ _ | with_reducible exact (K5.far (by omega) _ _ _).alloc _ | with_reducible exact ((K5.alloc _).alloc _).far (by omega) _ _ _)
            clear hK K hHeld
            have hHeld := hHeld2
            clear hHeld2
            try simp only [Act.put, List.setIfInBounds_toArray, List.set_cons_zero, List.set_cons_succ]
            refine wpAnyH_ready (rs := [6]) (by kernel_rfl) (by simp) ?rdy5152
            refine (AllReadyH.cons (List.getElem?_toArray.trans rfl) (fun K hK => ?stp5152_6) AllReadyH.nil)
            case stp5152_6 =>
              go_simp
              go_wp2_with fail
              refine hK.out _ _ ?hSn5153 (fun hHeld2 => ?rest5153)
              case hSn5153 => (first | with_reducible exact R0.drew | with_reducible exact (R0.alloc _).drew | with_reducible exact ((R0.alloc _).alloc _).drew | with_reducible exact hHeld.below hb4 | with_reducible exact hHeld.below hb5 | with_reducible exact hHeld.alloc _ | with_reducible exact hHeld.far (by omega) _ _ _ | with_reducible exact K5.alloc _ | with_reducible exact (K5.alloc _).alloc _ | with_reducible exact (K5.alloc _).far (by omega) _ _ _ | with_reducible exact (K5.far (by omega) _ _ _).alloc _ | with_reducible exact ((K5.alloc _).alloc _).far (by omega) _ _ _)
              clear hK K hHeld
              have hHeld := hHeld2
              clear hHeld2
              try simp only [Act.put, List.setIfInBounds_toArray, List.set_cons_zero, List.set_cons_succ]
              refine wpAnyH_ready (rs := [7]) (by kernel_rfl) (by simp) ?rdy5154
              refine (AllReadyH.cons (List.getElem?_toArray.trans rfl) (fun K hK => ?stp5154_7) AllReadyH.nil)
              case stp5154_7 =>
                go_simp
                go_wp2_with fail
                refine hK.out _ _ ?hSn5155 (fun hHeld2 => ?rest5155)
                case hSn5155 => (first | with_reducible exact R0.drew | with_reducible exact (R0.alloc _).drew | with_reducible exact ((R0.alloc _).alloc _).drew | with_reducible exact hHeld.below hb4 | with_reducible exact hHeld.below hb5 | with_reducible exact hHeld.alloc _ | with_reducible exact hHeld.far (by omega) _ _ _ | with_reducible exact K5.alloc _ | with_reducible exact (K5.alloc _).alloc _ | with_reducible exact (K5.alloc _).far (by omega) _ _ _ | with_reducible exact (K5.far (by omega) _ _ _).alloc _ | with_reducible exact ((K5.alloc _).alloc _).far (by omega) _ _ _)
                clear hK K hHeld
                have hHeld := hHeld2
                clear hHeld2
                try simp only [Act.put, List.setIfInBounds_toArray, List.set_cons_zero, List.set_cons_succ]
                refine wpAnyH_done (by kernel_rfl) ?_ _
                go_wp2_with fail
                go_meet
                case rel => exact ⟨_, _, rfl, rfl, (by (repeat (first | with_reducible exact Blk.new _ _ _ | with_reducible exact Blk.newB _ _ _ _ | with_reducible exact Blk.news3 _ _ _ _ _ _ _ _ _ | with_reducible exact U5 | with_reducible exact V5 | with_reducible exact X5 | with_reducible exact Y5 | with_reducible refine Blk.put3 (x := .bool false) (y := .int .u64 0) (z := .int .u64 0) ?_ _ _ _ | with_reducible refine Blk.far3 ?_ (by omega) _ _ _ | with_reducible refine Blk.alloc ?_ _))), (by (repeat (first | with_reducible exact Blk.new _ _ _ | with_reducible exact Blk.newB _ _ _ _ | with_reducible exact Blk.news3 _ _ _ _ _ _ _ _ _ | with_reducible exact U5 | with_reducible exact V5 | with_reducible exact X5 | with_reducible exact Y5 | with_reducible refine Blk.put3 (x := .bool false) (y := .int .u64 0) (z := .int .u64 0) ?_ _ _ _ | with_reducible refine Blk.far3 ?_ (by omega) _ _ _ | with_reducible refine Blk.alloc ?_ _))), hHeld⟩
        case stp5148_4 =>
          go_simp
          go_wp2_with fail
          refine hK.out _ _ ?hSn5156 (fun hHeld2 => ?rest5156)
          case hSn5156 => (first | with_reducible exact R0.drew | with_reducible exact (R0.alloc _).drew | with_reducible exact ((R0.alloc _).alloc _).drew | with_reducible exact hHeld.below hb4 | with_reducible exact hHeld.below hb5 | with_reducible exact hHeld.alloc _ | with_reducible exact hHeld.far (by omega) _ _ _ | with_reducible exact K5.alloc _ | with_reducible exact (K5.alloc _).alloc _ | with_reducible exact (K5.alloc _).far (by omega) _ _ _ | with_reducible exact (K5.far (by omega) _ _ _).alloc _ | with_reducible exact ((K5.alloc _).alloc _).far (by omega) _ _ _)
          clear hK K hHeld
          have hHeld := hHeld2
          clear hHeld2
          try simp only [Act.put, List.setIfInBounds_toArray, List.set_cons_zero, List.set_cons_succ]
          refine wpAnyH_ready (rs := [3]) (by kernel_rfl) (by simp) ?rdy5157
          refine (AllReadyH.cons (List.getElem?_toArray.trans rfl) (fun K hK => ?stp5157_3) AllReadyH.nil)
          case stp5157_3 =>
            go_simp
            go_wp2_with fail
            (refine (CL.out _).mono ?_; rintro e w5 ⟨rfl, hb5⟩; have K5 := hHeld.below hb5; have s5 : w4.heap.size ≤ w5.heap.size := (by have := hb5.size; first | exact this | (simp at this; omega)); (first | (have U5 := U4.below hb5; obtain ⟨a0, a1, a2, a3, a4, a5, a6⟩ := U5.three) | (have U5 := Blk.via hb5 (U4.alloc (.cells #[.bool false, .int .u64 0, .int .u64 0] 26)) rfl; obtain ⟨a0, a1, a2, a3, a4, a5, a6⟩ := U5.three) | (have U5 := Blk.via hb5 ((U4.alloc (.cells #[.bool false, .int .u64 0, .int .u64 0] 26)).alloc (.cells #[.bool false, .int .u64 0, .int .u64 0] 26)) rfl; obtain ⟨a0, a1, a2, a3, a4, a5, a6⟩ := U5.three) | skip); (first | (have V5 := V4.below hb5; obtain ⟨b0, b1, b2, b3, b4, b5, b6⟩ := V5.three) | (have V5 := Blk.via hb5 (V4.alloc (.cells #[.bool false, .int .u64 0, .int .u64 0] 26)) rfl; obtain ⟨b0, b1, b2, b3, b4, b5, b6⟩ := V5.three) | (have V5 := Blk.via hb5 ((V4.alloc (.cells #[.bool false, .int .u64 0, .int .u64 0] 26)).alloc (.cells #[.bool false, .int .u64 0, .int .u64 0] 26)) rfl; obtain ⟨b0, b1, b2, b3, b4, b5, b6⟩ := V5.three) | skip); first | (have X5 : Blk w5 w4.heap.size #[.bool false, .int .u64 0, .int .u64 0] 26 := Blk.via hb5 ((Blk.new w4 #[.bool false, .int .u64 0, .int .u64 0] 26).alloc (.cells #[.bool false, .int .u64 0, .int .u64 0] 26)) rfl; have Y5 : Blk w5 (w4.heap.size + 1) #[.bool false, .int .u64 0, .int .u64 0] 26 := Blk.via hb5 (Blk.newB w4 (.cells #[.bool false, .int .u64 0, .int .u64 0] 26) #[.bool false, .int .u64 0, .int .u64 0] 26) rfl; obtain ⟨p0, p1, p2, p3, p4, p5, p6⟩ := X5.three; obtain ⟨q0, q1, q2, q3, q4, q5, q6⟩ := Y5.three) | (have X5 : Blk w5 w4.heap.size #[.bool false, .int .u64 0, .int .u64 0] 26 := Blk.via hb5 (Blk.new w4 #[.bool false, .int .u64 0, .int .u64 0] 26) rfl; obtain ⟨p0, p1, p2, p3, p4, p5, p6⟩ := X5.three) | skip)
            go_wp2_with fail
            refine hK.out _ _ ?hSn5158 (fun hHeld2 => ?rest5158)
            case hSn5158 => (first | with_reducible exact R0.drew | with_reducible exact (R0.alloc _).drew | with_reducible exact ((R0.alloc _).alloc _).drew | with_reducible exact hHeld.below hb4 | with_reducible exact hHeld.below hb5 | with_reducible exact hHeld.alloc _ | with_reducible exact hHeld.far (by omega) _ _ _ | with_reducible exact K5.alloc _ | with_reducible exact (K5.alloc _).alloc _ | with_reducible exact (K5.alloc _).far (by omega) _ _ _ | with_reducible exact (K5.far (by omega) _ _ _).alloc _ | with_reducible exact ((K5.alloc _).alloc _).far (by omega) _ _ _)
            clear hK K hHeld
            have hHeld := hHeld2
            clear hHeld2
            try simp only [Act.put, List.setIfInBounds_toArray, List.set_cons_zero, List.set_cons_succ]
            refine wpAnyH_ready (rs := [6]) (by kernel_rfl) (by simp) ?rdy5159
            refine (AllReadyH.cons (List.getElem?_toArray.trans rfl) (fun K hK => ?stp5159_6) AllReadyH.nil)
            case stp5159_6 =>
              go_simp
              go_wp2_with fail
              refine hK.out _ _ ?hSn5160 (fun hHeld2 => ?rest5160)
              case hSn5160 => (first | with_reducible exact R0.drew | with_reducible exact (R0.alloc _).drew | with_reducible exact ((R0.alloc _).alloc _).drew | with_reducible exact hHeld.below hb4 | with_reducible exact hHeld.below hb5 | with_reducible exact hHeld.alloc _ | with_reducible exact hHeld.far (by omega) _ _ _ | with_reducible exact K5.alloc _ | with_reducible exact (K5.alloc _).alloc _ | with_reducible exact (K5.alloc _).far (by omega) _ _ _ | with_reducible exact (K5.far (by omega) _ _ _).alloc _ | with_reducible exact ((K5.alloc _).alloc _).far (by omega) _ _ _)
              clear hK K hHeld
              have hHeld := hHeld2
              clear hHeld2
              try simp only [Act.put, List.setIfInBounds_toArray, List.set_cons_zero, List.set_cons_succ]
              refine wpAnyH_ready (rs := [7]) (by kernel_rfl) (by simp) ?rdy5161
              refine (AllReadyH.cons (List.getElem?_toArray.trans rfl) (fun K hK => ?stp5161_7) AllReadyH.nil)
              case stp5161_7 =>
                go_simp
                go_wp2_with fail
                refine hK.out _ _ ?hSn5162 (fun hHeld2 => ?rest5162)
                case hSn5162 => (first | with_reducible exact R0.drew | with_reducible exact (R0.alloc _).drew | with_reducible exact ((R0.alloc _).alloc _).drew | with_reducible exact hHeld.below hb4 | with_reducible exact hHeld.below hb5 | with_reducible exact hHeld.alloc _ | with_reducible exact hHeld.far (by omega) _ _ _ | with_reducible exact K5.alloc _ | with_reducible exact (K5.alloc _).alloc _ | with_reducible exact (K5.alloc _).far (by omega) _ _ _ | with_reducible exact (K5.far (by omega) _ _ _).alloc _ | with_reducible exact ((K5.alloc _).alloc _).far (by omega) _ _ _)
                clear hK K hHeld
                have hHeld := hHeld2
                clear hHeld2
                try simp only [Act.put, List.setIfInBounds_toArray, List.set_cons_zero, List.set_cons_succ]
                refine wpAnyH_done (by kernel_rfl) ?_ _
                go_wp2_with fail
                go_meet
                case rel => exact ⟨_, _, rfl, rfl, (by (repeat (first | with_reducible exact Blk.new _ _ _ | with_reducible exact Blk.newB _ _ _ _ | with_reducible exact Blk.news3 _ _ _ _ _ _ _ _ _ | with_reducible exact U5 | with_reducible exact V5 | with_reducible exact X5 | with_reducible exact Y5 | with_reducible refine Blk.put3 (x := .bool false) (y := .int .u64 0) (z := .int .u64 0) ?_ _ _ _ | with_reducible refine Blk.far3 ?_ (by omega) _ _ _ | with_reducible refine Blk.alloc ?_ _))), (by (repeat (first | with_reducible exact Blk.new _ _ _ | with_reducible exact Blk.newB _ _ _ _ | with_reducible exact Blk.news3 _ _ _ _ _ _ _ _ _ | with_reducible exact U5 | with_reducible exact V5 | with_reducible exact X5 | with_reducible exact Y5 | with_reducible refine Blk.put3 (x := .bool false) (y := .int .u64 0) (z := .int .u64 0) ?_ _ _ _ | with_reducible refine Blk.far3 ?_ (by omega) _ _ _ | with_reducible refine Blk.alloc ?_ _))), hHeld⟩
    case stp5112_4 =>
      go_simp
      go_wp2_with fail
      refine hK.out _ _ ?hSn5163 (fun hHeld2 => ?rest5163)
      case hSn5163 => (first | with_reducible exact R0.drew | with_reducible exact (R0.alloc _).drew | with_reducible exact ((R0.alloc _).alloc _).drew | with_reducible exact hHeld.below hb4 | with_reducible exact hHeld.below hb5 | with_reducible exact hHeld.alloc _ | with_reducible exact hHeld.far (by omega) _ _ _ | with_reducible exact K5.alloc _ | with_reducible exact (K5.alloc _).alloc _ | with_reducible exact (K5.alloc _).far (by omega) _ _ _ | with_reducible exact (K5.far (by omega) _ _ _).alloc _ | with_reducible exact ((K5.alloc _).alloc _).far (by omega) _ _ _)
      clear hK K hHeld
      have hHeld := hHeld2
      clear hHeld2
      try simp only [Act.put, List.setIfInBounds_toArray, List.set_cons_zero, List.set_cons_succ]
      refine wpAnyH_ready (rs := [1, 5]) (by kernel_rfl) (by simp) ?rdy5164
      refine (AllReadyH.cons (List.getElem?_toArray.trans rfl) (fun K hK => ?stp5164_1) (AllReadyH.cons (List.getElem?_toArray.trans rfl) (fun K hK => ?stp5164_5) AllReadyH.nil))
      case stp5164_1 =>
        go_simp
        go_wp2_with fail
        (refine (CF.out _).mono ?_; rintro e w4 ⟨rfl, hb4⟩; have s4 : w0.heap.size ≤ w4.heap.size := (by have := hb4.size; first | exact this | (simp at this; omega)); first | (have U4 : Blk w4 w0.heap.size #[.bool false, .int .u64 0, .int .u64 0] 26 := Blk.via hb4 ((Blk.new w0 #[.bool false, .int .u64 0, .int .u64 0] 26).alloc (.cells #[.bool false, .int .u64 0, .int .u64 0] 26)) rfl; have V4 : Blk w4 (w0.heap.size + 1) #[.bool false, .int .u64 0, .int .u64 0] 26 := Blk.via hb4 (Blk.newB w0 (.cells #[.bool false, .int .u64 0, .int .u64 0] 26) #[.bool false, .int .u64 0, .int .u64 0] 26) rfl; obtain ⟨u0, u1, u2, u3, u4, u5, u6⟩ := U4.three; obtain ⟨y0, y1, y2, y3, y4, y5, y6⟩ := V4.three) | (have U4 : Blk w4 w0.heap.size #[.bool false, .int .u64 0, .int .u64 0] 26 := Blk.via hb4 (Blk.new w0 #[.bool false, .int .u64 0, .int .u64 0] 26) rfl; obtain ⟨u0, u1, u2, u3, u4, u5, u6⟩ := U4.three) | skip)
        go_wp2_with fail
        refine hK.out _ _ ?hSn5165 (fun hHeld2 => ?rest5165)
        case hSn5165 => (first | with_reducible exact R0.drew | with_reducible exact (R0.alloc _).drew | with_reducible exact ((R0.alloc _).alloc _).drew | with_reducible exact hHeld.below hb4 | with_reducible exact hHeld.below hb5 | with_reducible exact hHeld.alloc _ | with_reducible exact hHeld.far (by omega) _ _ _ | with_reducible exact K5.alloc _ | with_reducible exact (K5.alloc _).alloc _ | with_reducible exact (K5.alloc _).far (by omega) _ _ _ | with_reducible exact (K5.far (by omega) _ _ _).alloc _ | with_reducible exact ((K5.alloc _).alloc _).far (by omega) _ _ _)
        clear hK K hHeld
        have hHeld := hHeld2
        clear hHeld2
        try simp only [Act.put, List.setIfInBounds_toArray, List.set_cons_zero, List.set_cons_succ]
        refine wpAnyH_ready (rs := [3, 5]) (by kernel_rfl) (by simp) ?rdy5166
        refine (AllReadyH.cons (List.getElem?_toArray.trans rfl) (fun K hK => ?stp5166_3) (AllReadyH.cons (List.getElem?_toArray.trans rfl) (fun K hK => ?stp5166_5) AllReadyH.nil))
        case stp5166_3 =>
          go_simp
          go_wp2_with fail
          (refine (CL.out _).mono ?_; rintro e w5 ⟨rfl, hb5⟩; have K5 := hHeld.below hb5; have s5 : w4.heap.size ≤ w5.heap.size := (by have := hb5.size; first | exact this | (simp at this; omega)); (first | (have U5 := U4.below hb5; obtain ⟨a0, a1, a2, a3, a4, a5, a6⟩ := U5.three) | (have U5 := Blk.via hb5 (U4.alloc (.cells #[.bool false, .int .u64 0, .int .u64 0] 26)) rfl; obtain ⟨a0, a1, a2, a3, a4, a5, a6⟩ := U5.three) | (have U5 := Blk.via hb5 ((U4.alloc (.cells #[.bool false, .int .u64 0, .int .u64 0] 26)).alloc (.cells #[.bool false, .int .u64 0, .int .u64 0] 26)) rfl; obtain ⟨a0, a1, a2, a3, a4, a5, a6⟩ := U5.three) | skip); (first | (have V5 := V4.below hb5; obtain ⟨b0, b1, b2, b3, b4, b5, b6⟩ := V5.three) | (have V5 := Blk.via hb5 (V4.alloc (.cells #[.bool false, .int .u64 0, .int .u64 0] 26)) rfl; obtain ⟨b0, b1, b2, b3, b4, b5, b6⟩ := V5.three) | (have V5 := Blk.via hb5 ((V4.alloc (.cells #[.bool false, .int .u64 0, .int .u64 0] 26)).alloc (.cells #[.bool false, .int .u64 0, .int .u64 0] 26)) rfl; obtain ⟨b0, b1, b2, b3, b4, b5, b6⟩ := V5.three) | skip); first | (have X5 : Blk w5 w4.heap.size #[.bool false, .int .u64 0, .int .u64 0] 26 := Blk.via hb5 ((Blk.new w4 #[.bool false, .int .u64 0, .int .u64 0] 26).alloc (.cells #[.bool false, .int .u64 0, .int .u64 0] 26)) rfl; have Y5 : Blk w5 (w4.heap.size + 1) #[.bool false, .int .u64 0, .int .u64 0] 26 := Blk.via hb5 (Blk.newB w4 (.cells #[.bool false, .int .u64 0, .int .u64 0] 26) #[.bool false, .int .u64 0, .int .u64 0] 26) rfl; obtain ⟨p0, p1, p2, p3, p4, p5, p6⟩ := X5.three; obtain ⟨q0, q1, q2, q3, q4, q5, q6⟩ := Y5.three) | (have X5 : Blk w5 w4.heap.size #[.bool false, .int .u64 0, .int .u64 0] 26 := Blk.via hb5 (Blk.new w4 #[.bool false, .int .u64 0, .int .u64 0] 26) rfl; obtain ⟨p0, p1, p2, p3, p4, p5, p6⟩ := X5.three) | skip)
          go_wp2_with fail
          refine hK.out _ _ ?hSn5167 (fun hHeld2 => ?rest5167)
          case hSn5167 => (first | with_reducible exact R0.drew | with_reducible exact (R0.alloc _).drew | with_reducible exact ((R0.alloc _).alloc _).drew | with_reducible exact hHeld.below hb4 | with_reducible exact hHeld.below hb5 | with_reducible exact hHeld.alloc _ | with_reducible exact hHeld.far (by omega) _ _ _ | with_reducible exact K5.alloc _ | with_reducible exact (K5.alloc _).alloc _ | with_reducible exact (K5.alloc _).far (by omega) _ _ _ | with_reducible exact (K5.far (by omega) _ _ _).alloc _ | with_reducible exact ((K5.alloc _).alloc _).far (by omega) _ _ _)
          clear hK K hHeld
          have hHeld := hHeld2
          clear hHeld2
          try simp only [Act.put, List.setIfInBounds_toArray, List.set_cons_zero, List.set_cons_succ]
          refine wpAnyH_ready (rs := [5]) (by kernel_rfl) (by simp) ?rdy5168
          refine (AllReadyH.cons (List.getElem?_toArray.trans rfl) (fun K hK => ?stp5168_5) AllReadyH.nil)
          case stp5168_5 =>
            go_simp
            go_wp2_with fail
            refine hK.out _ _ ?hSn5169 (fun hHeld2 => ?rest5169)
            case hSn5169 => (first | with_reducible exact R0.drew | with_reducible exact (R0.alloc _).drew | with_reducible exact ((R0.alloc _).alloc _).drew | with_reducible exact hHeld.below hb4 | with_reducible exact hHeld.below hb5 | with_reducible exact hHeld.alloc _ | with_reducible exact hHeld.far (by omega) _ _ _ | with_reducible exact K5.alloc _ | with_reducible exact (K5.alloc _).alloc _ | with_reducible exact (K5.alloc _).far (by omega) _ _ _ | with_reducible exact (K5.far (by omega) _ _ _).alloc _ | with_reducible exact ((K5.alloc _).alloc _).far (by omega) _ _ _)
            clear hK K hHeld
            have hHeld := hHeld2
            clear hHeld2
            try simp only [Act.put, List.setIfInBounds_toArray, List.set_cons_zero, List.set_cons_succ]
            refine wpAnyH_ready (rs := [6]) (by kernel_rfl) (by simp) ?rdy5170
            refine (AllReadyH.cons (List.getElem?_toArray.trans rfl) (fun K hK => ?stp5170_6) AllReadyH.nil)
            case stp5170_6 =>
              go_simp
              go_wp2_with fail
              refine hK.out _ _ ?hSn5171 (fun hHeld2 => ?rest5171)
              case hSn5171 => (first | with_reducible exact R0.drew | with_reducible exact (R0.alloc _).drew | with_reducible exact ((R0.alloc _).alloc _).drew | with_reducible exact hHeld.below hb4 | with_reducible exact hHeld.below hb5 | with_reducible exact hHeld.alloc _ | with_reducible exact hHeld.far (by omega) _ _ _ | with_reducible exact K5.alloc _ | with_reducible exact (K5.alloc _).alloc _ | with_reducible exact (K5.alloc _).far (by omega) _ _ _ | with_reducible exact (K5.far (by omega) _ _ _).alloc _ | with_reducible exact ((K5.alloc _).alloc _).far (by omega) _ _ _)
              clear hK K hHeld
              have hHeld := hHeld2
              clear hHeld2
              try simp only [Act.put, List.setIfInBounds_toArray, List.set_cons_zero, List.set_cons_succ]
              refine wpAnyH_ready (rs := [7]) (by kernel_rfl) (by simp) ?rdy5172
              refine (AllReadyH.cons (List.getElem?_toArray.trans rfl) (fun K hK => ?stp5172_7) AllReadyH.nil)
              case stp5172_7 =>
                go_simp
                go_wp2_with fail
                refine hK.out _ _ ?hSn5173 (fun hHeld2 => ?rest5173)
                case hSn5173 => (first | with_reducible exact R0.drew | with_reducible exact (R0.alloc _).drew | with_reducible exact ((R0.alloc _).alloc _).drew | with_reducible exact hHeld.below hb4 | with_reducible exact hHeld.below hb5 | with_reducible exact hHeld.alloc _ | with_reducible exact hHeld.far (by omega) _ _ _ | with_reducible exact K5.alloc _ | with_reducible exact (K5.alloc _).alloc _ | with_reducible exact (K5.alloc _).far (by omega) _ _ _ | with_reducible exact (K5.far (by omega) _ _ _).alloc _ | with_reducible exact ((K5.alloc _).alloc _).far (by omega) _ _ _)
                clear hK K hHeld
                have hHeld := hHeld2
                clear hHeld2
                try simp only [Act.put, List.setIfInBounds_toArray, List.set_cons_zero, List.set_cons_succ]
                refine wpAnyH_done (by kernel_rfl) ?_ _
                go_wp2_with fail
                go_meet
                case rel => exact ⟨_, _, rfl, rfl, (by (repeat (first | with_reducible exact Blk.new _ _ _ | with_reducible exact Blk.newB _ _ _ _ | with_reducible exact Blk.news3 _ _ _ _ _ _ _ _ _ | with_reducible exact U5 | with_reducible exact V5 | with_reducible exact X5 | with_reducible exact Y5 | with_reducible refine Blk.put3 (x := .bool false) (y := .int .u64 0) (z := .int .u64 0) ?_ _ _ _ | with_reducible refine Blk.far3 ?_ (by omega) _ _ _ | with_reducible refine Blk.alloc ?_ _))), (by (repeat (first | with_reducible exact Blk.new _ _ _ | with_reducible exact Blk.newB _ _ _ _ | with_reducible exact Blk.news3 _ _ _ _ _ _ _ _ _ | with_reducible exact U5 | with_reducible exact V5 | with_reducible exact X5 | with_reducible exact Y5 | with_reducible refine Blk.put3 (x := .bool false) (y := .int .u64 0) (z := .int .u64 0) ?_ _ _ _ | with_reducible refine Blk.far3 ?_ (by omega) _ _ _ | with_reducible refine Blk.alloc ?_ _))), hHeld⟩
        case stp5166_5 =>
          go_simp
          go_wp2_with fail
          refine hK.out _ _ ?hSn5174 (fun hHeld2 => ?rest5174)
          case hSn5174 => (first | with_reducible exact R0.drew | with_reducible exact (R0.alloc _).drew | with_reducible exact ((R0.alloc _).alloc _).drew | with_reducible exact hHeld.below hb4 | with_reducible exact hHeld.below hb5 | with_reducible exact hHeld.alloc _ | with_reducible exact hHeld.far (by omega) _ _ _ | with_reducible exact K5.alloc _ | with_reducible exact (K5.alloc _).alloc _ | with_reducible exact (K5.alloc _).far (by omega) _ _ _ | with_reducible exact (K5.far (by omega) _ _ _).alloc _ | with_reducible exact ((K5.alloc _).alloc _).far (by omega) _ _ _)
          clear hK K hHeld
          have hHeld := hHeld2
          clear hHeld2
          try simp only [Act.put, List.setIfInBounds_toArray, List.set_cons_zero, List.set_cons_succ]
          refine wpAnyH_ready (rs := [3]) (by kernel_rfl) (by simp) ?rdy5175
          refine (AllReadyH.cons (List.getElem?_toArray.trans rfl) (fun K hK => ?stp5175_3) AllReadyH.nil)
          case stp5175_3 =>
            go_simp
            go_wp2_with fail
            (refine (CL.out _).mono ?_; rintro e w5 ⟨rfl, hb5⟩; have K5 := hHeld.below hb5; have s5 : w4.heap.size ≤ w5.heap.size := (by have := hb5.size; first | exact this | (simp at this; omega)); (first | (have U5 := U4.below hb5; obtain ⟨a0, a1, a2, a3, a4, a5, a6⟩ := U5.three) | (have U5 := Blk.via hb5 (U4.alloc (.cells #[.bool false, .int .u64 0, .int .u64 0] 26)) rfl; obtain ⟨a0, a1, a2, a3, a4, a5, a6⟩ := U5.three) | (have U5 := Blk.via hb5 ((U4.alloc (.cells #[.bool false, .int .u64 0, .int .u64 0] 26)).alloc (.cells #[.bool false, .int .u64 0, .int .u64 0] 26)) rfl; obtain ⟨a0, a1, a2, a3, a4, a5, a6⟩ := U5.three) | skip); (first | (have V5 := V4.below hb5; obtain ⟨b0, b1, b2, b3, b4, b5, b6⟩ := V5.three) | (have V5 := Blk.via hb5 (V4.alloc (.cells #[.bool false, .int .u64 0, .int .u64 0] 26)) rfl; obtain ⟨b0, b1, b2, b3, b4, b5, b6⟩ := V5.three) | (have V5 := Blk.via hb5 ((V4.alloc (.cells #[.bool false, .int .u64 0, .int .u64 0] 26)).alloc (.cells #[.bool false, .int .u64 0, .int .u64 0] 26)) rfl; obtain ⟨b0, b1, b2, b3, b4, b5, b6⟩ := V5.three) | skip); first | (have X5 : Blk w5 w4.heap.size #[.bool false, .int .u64 0, .int .u64 0] 26 := Blk.via hb5 ((Blk.new w4 #[.bool false, .int .u64 0, .int .u64 0] 26).alloc (.cells #[.bool false, .int .u64 0, .int .u64 0] 26)) rfl; have Y5 : Blk w5 (w4.heap.size + 1) #[.bool false, .int .u64 0, .int .u64 0] 26 := Blk.via hb5 (Blk.newB w4 (.cells #[.bool false, .int .u64 0, .int .u64 0] 26) #[.bool false, .int .u64 0, .int .u64 0] 26) rfl; obtain ⟨p0, p1, p2, p3, p4, p5, p6⟩ := X5.three; obtain ⟨q0, q1, q2, q3, q4, q5, q6⟩ := Y5.three) | (have X5 : Blk w5 w4.heap.size #[.bool false, .int .u64 0, .int .u64 0] 26 := Blk.via hb5 (Blk.new w4 #[.bool false, .int .u64 0, .int .u64 0] 26) rfl; obtain ⟨p0, p1, p2, p3, p4, p5, p6⟩ := X5.three) | skip)
            go_wp2_with fail
            refine hK.out _ _ ?hSn5176 (fun hHeld2 => ?rest5176)
            case hSn5176 => (first | with_reducible exact R0.drew | with_reducible exact (R0.alloc _).drew | with_reducible exact ((R0.alloc _).alloc _).drew | with_reducible exact hHeld.below hb4 | with_reducible exact hHeld.below hb5 | with_reducible exact hHeld.alloc _ | with_reducible exact hHeld.far (by omega) _ _ _ | with_reducible exact K5.alloc _ | with_reducible exact (K5.alloc _).alloc _ | with_reducible exact (K5.alloc _).far (by omega) _ _ _ | with_reducible exact (K5.far (by omega) _ _ _).alloc _ | with_reducible exact ((K5.alloc _).alloc _).far (by omega) _ _ _)
            clear hK K hHeld
            have hHeld := hHeld2
            clear hHeld2
            try simp only [Act.put, List.setIfInBounds_toArray, List.set_cons_zero, List.set_cons_succ]
            refine wpAnyH_ready (rs := [6]) (by kernel_rfl) (by simp) ?rdy5177
            refine (AllReadyH.cons (List.getElem?_toArray.trans rfl) (fun K hK => ?stp5177_6) AllReadyH.nil)
            case stp5177_6 =>
              go_simp
              go_wp2_with fail
              refine hK.out _ _ ?hSn5178 (fun hHeld2 => ?rest5178)
              case hSn5178 => (first | with_reducible exact R0.drew | with_reducible exact (R0.alloc _).drew | with_reducible exact ((R0.alloc _).alloc _).drew | with_reducible exact hHeld.below hb4 | with_reducible exact hHeld.below hb5 | with_reducible exact hHeld.alloc _ | with_reducible exact hHeld.far (by omega) _ _ _ | with_reducible exact K5.alloc _ | with_reducible exact (K5.alloc _).alloc _ | with_reducible exact (K5.alloc _).far (by omega) _ _ _ | with_reducible exact (K5.far (by omega) _ _ _).alloc _ | with_reducible exact ((K5.alloc _).alloc _).far (by omega) _ _ _)
              clear hK K hHeld
              have hHeld := hHeld2
              clear hHeld2
              try simp only [Act.put, List.setIfInBounds_toArray, List.set_cons_zero, List.set_cons_succ]
              refine wpAnyH_ready (rs := [7]) (by kernel_rfl) (by simp) ?rdy5179
              refine (AllReadyH.cons (List.getElem?_toArray.trans rfl) (fun K hK => ?stp5179_7) AllReadyH.nil)
              case stp5179_7 =>
                go_simp
                go_wp2_with fail
                refine hK.out _ _ ?hSn5180 (fun hHeld2 => ?rest5180)
                case hSn5180 => (first | with_reducible exact R0.drew | with_reducible exact (R0.alloc _).drew | with_reducible exact ((R0.alloc _).alloc _).drew | with_reducible exact hHeld.below hb4 | with_reducible exact hHeld.below hb5 | with_reducible exact hHeld.alloc _ | with_reducible exact hHeld.far (by omega) _ _ _ | with_reducible exact K5.alloc _ | with_reducible exact (K5.alloc _).alloc _ | with_reducible exact (K5.alloc _).far (by omega) _ _ _ | with_reducible exact (K5.far (by omega) _ _ _).alloc _ | with_reducible exact ((K5.alloc _).alloc _).far (by omega) _ _ _)
                clear hK K hHeld
                have hHeld := hHeld2
                clear hHeld2
                try simp only [Act.put, List.setIfInBounds_toArray, List.set_cons_zero, List.set_cons_succ]
                refine wpAnyH_done (by kernel_rfl) ?_ _
                go_wp2_with fail
                go_meet
                case rel => exact ⟨_, _, rfl, rfl, (by (repeat (first | with_reducible exact Blk.new _ _ _ | with_reducible exact Blk.newB _ _ _ _ | with_reducible exact Blk.news3 _ _ _ _ _ _ _ _ _ | with_reducible exact U5 | with_reducible exact V5 | with_reducible exact X5 | with_reducible exact Y5 | with_reducible refine Blk.put3 (x := .bool false) (y := .int .u64 0) (z := .int .u64 0) ?_ _ _ _ | with_reducible refine Blk.far3 ?_ (by omega) _ _ _ | with_reducible refine Blk.alloc ?_ _))), (by (repeat (first | with_reducible exact Blk.new _ _ _ | with_reducible exact Blk.newB _ _ _ _ | with_reducible exact Blk.news3 _ _ _ _ _ _ _ _ _ | with_reducible exact U5 | with_reducible exact V5 | with_reducible exact X5 | with_reducible exact Y5 | with_reducible refine Blk.put3 (x := .bool false) (y := .int .u64 0) (z := .int .u64 0) ?_ _ _ _ | with_reducible refine Blk.far3 ?_ (by omega) _ _ _ | with_reducible refine Blk.alloc ?_ _))), hHeld⟩
      case stp5164_5 =>
        go_simp
        go_wp2_with fail
        refine hK.out _ _ ?hSn5181 (fun hHeld2 => ?rest5181)
        case hSn5181 => (first | with_reducible exact R0.drew | with_reducible exact (R0.alloc _).drew | with_reducible exact ((R0.alloc _).alloc _).drew | with_reducible exact hHeld.below hb4 | with_reducible exact hHeld.below hb5 | with_reducible exact hHeld.alloc _ | with_reducible exact hHeld.far (by omega) _ _ _ | with_reducible exact K5.alloc _ | with_reducible exact (K5.alloc _).alloc _ | with_reducible exact (K5.alloc _).far (by omega) _ _ _ | with_reducible exact (K5.far (by omega) _ _ _).alloc _ | with_reducible exact ((K5.alloc _).alloc _).far (by omega) _ _ _)
        clear hK K hHeld
        have hHeld := hHeld2
        clear hHeld2
        try simp only [Act.put, List.setIfInBounds_toArray, List.set_cons_zero, List.set_cons_succ]
        refine wpAnyH_ready (rs := [1]) (by kernel_rfl) (by simp) ?rdy5182
        refine (AllReadyH.cons (List.getElem?_toArray.trans rfl) (fun K hK => ?stp5182_1) AllReadyH.nil)
        case stp5182_1 =>
          go_simp
          go_wp2_with fail
          (refine (CF.out _).mono ?_; rintro e w4 ⟨rfl, hb4⟩; have s4 : w0.heap.size ≤ w4.heap.size := (by have := hb4.size; first | exact this | (simp at this; omega)); first | (have U4 : Blk w4 w0.heap.size #[.bool false, .int .u64 0, .int .u64 0] 26 := Blk.via hb4 ((Blk.new w0 #[.bool false, .int .u64 0, .int .u64 0] 26).alloc (.cells #[.bool false, .int .u64 0, .int .u64 0] 26)) rfl; have V4 : Blk w4 (w0.heap.size + 1) #[.bool false, .int .u64 0, .int .u64 0] 26 := Blk.via hb4 (Blk.newB w0 (.cells #[.bool false, .int .u64 0, .int .u64 0] 26) #[.bool false, .int .u64 0, .int .u64 0] 26) rfl; obtain ⟨u0, u1, u2, u3, u4, u5, u6⟩ := U4.three; obtain ⟨y0, y1, y2, y3, y4, y5, y6⟩ := V4.three) | (have U4 : Blk w4 w0.heap.size #[.bool false, .int .u64 0, .int .u64 0] 26 := Blk.via hb4 (Blk.new w0 #[.bool false, .int .u64 0, .int .u64 0] 26) rfl; obtain ⟨u0, u1, u2, u3, u4, u5, u6⟩ := U4.three) | skip)
          go_wp2_with fail
          refine hK.out _ _ ?hSn5183 (fun hHeld2 => ?rest5183)
          case hSn5183 => (first | with_reducible exact R0.drew | with_reducible exact (R0.alloc _).drew | with_reducible exact ((R0.alloc _).alloc _).drew | with_reducible exact hHeld.below hb4 | with_reducible exact hHeld.below hb5 | with_reducible exact hHeld.alloc _ | with_reducible exact hHeld.far (by omega) _ _ _ | with_reducible exact K5.alloc _ | with_reducible exact (K5.alloc _).alloc _ | with_reducible exact (K5.alloc _).far (by omega) _ _ _ | with_reducible exact (K5.far (by omega) _ _ _).alloc _ | with_reducible exact ((K5.alloc _).alloc _).far (by omega) _ _ _)
          clear hK K hHeld
          have hHeld := hHeld2
          clear hHeld2
          try simp only [Act.put, List.setIfInBounds_toArray, List.set_cons_zero, List.set_cons_succ]
          refine wpAnyH_ready (rs := [3]) (by kernel_rfl) (by simp) ?rdy5184
          refine (AllReadyH.cons (List.getElem?_toArray.trans rfl) (fun K hK => ?stp5184_3) AllReadyH.nil)
          case stp5184_3 =>
            go_simp
            go_wp2_with fail
            (refine (CL.out _).mono ?_; rintro e w5 ⟨rfl, hb5⟩; have K5 := hHeld.below hb5; have s5 : w4.heap.size ≤ w5.heap.size := (by have := hb5.size; first | exact this | (simp at this; omega)); (first | (have U5 := U4.below hb5; obtain ⟨a0, a1, a2, a3, a4, a5, a6⟩ := U5.three) | (have U5 := Blk.via hb5 (U4.alloc (.cells #[.bool false, .int .u64 0, .int .u64 0] 26)) rfl; obtain ⟨a0, a1, a2, a3, a4, a5, a6⟩ := U5.three) | (have U5 := Blk.via hb5 ((U4.alloc (.cells #[.bool false, .int .u64 0, .int .u64 0] 26)).alloc (.cells #[.bool false, .int .u64 0, .int .u64 0] 26)) rfl; obtain ⟨a0, a1, a2, a3, a4, a5, a6⟩ := U5.three) | skip); (first | (have V5 := V4.below hb5; obtain ⟨b0, b1, b2, b3, b4, b5, b6⟩ := V5.three) | (have V5 := Blk.via hb5 (V4.alloc (.cells #[.bool false, .int .u64 0, .int .u64 0] 26)) rfl; obtain ⟨b0, b1, b2, b3, b4, b5, b6⟩ := V5.three) | (have V5 := Blk.via hb5 ((V4.alloc (.cells #[.bool false, .int .u64 0, .int .u64 0] 26)).alloc (.cells #[.bool false, .int .u64 0, .int .u64 0] 26)) rfl; obtain ⟨b0, b1, b2, b3, b4, b5, b6⟩ := V5.three) | skip); first | (have X5 : Blk w5 w4.heap.size #[.bool false, .int .u64 0, .int .u64 0] 26 := Blk.via hb5 ((Blk.new w4 #[.bool false, .int .u64 0, .int .u64 0] 26).alloc (.cells #[.bool false, .int .u64 0, .int .u64 0] 26)) rfl; have Y5 : Blk w5 (w4.heap.size + 1) #[.bool false, .int .u64 0, .int .u64 0] 26 := Blk.via hb5 (Blk.newB w4 (.cells #[.bool false, .int .u64 0, .int .u64 0] 26) #[.bool false, .int .u64 0, .int .u64 0] 26) rfl; obtain ⟨p0, p1, p2, p3, p4, p5, p6⟩ := X5.three; obtain ⟨q0, q1, q2, q3, q4, q5, q6⟩ := Y5.three) | (have X5 : Blk w5 w4.heap.size #[.bool false, .int .u64 0, .int .u64 0] 26 := Blk.via hb5 (Blk.new w4 #[.bool false, .int .u64 0, .int .u64 0] 26) rfl; obtain ⟨p0, p1, p2, p3, p4, p5, p6⟩ := X5.three) | skip)
            go_wp2_with fail
            refine hK.out _ _ ?hSn5185 (fun hHeld2 => ?rest5185)
            case hSn5185 => (first | with_reducible exact R0.drew | with_reducible exact (R0.alloc _).drew | with_reducible exact ((R0.alloc _).alloc _).drew | with_reducible exact hHeld.below hb4 | with_reducible exact hHeld.below hb5 | with_reducible exact hHeld.alloc _ | with_reducible exact hHeld.far (by omega) _ _ _ | with_reducible exact K5.alloc _ | with_reducible exact (K5.alloc _).alloc _ | with_reducible exact (K5.alloc _).far (by omega) _ _ _ | with_reducible exact (K5.far (by omega) _ _ _).alloc _ | with_reducible exact ((K5.alloc _).alloc _).far (by omega) _ _ _)
            clear hK K hHeld
            have hHeld := hHeld2
            clear hHeld2
            try simp only [Act.put, List.setIfInBounds_toArray, List.set_cons_zero, List.set_cons_succ]
            refine wpAnyH_ready (rs := [6]) (by kernel_rfl) (by simp) ?rdy5186
            refine (AllReadyH.cons (List.getElem?_toArray.trans rfl) (fun K hK => ?stp5186_6) AllReadyH.nil)
            case stp5186_6 =>
              go_simp
              go_wp2_with fail
              refine hK.out _ _ ?hSn5187 (fun hHeld2 => ?rest5187)
              case hSn5187 => (first | with_reducible exact R0.drew | with_reducible exact (R0.alloc _).drew | with_reducible exact ((R0.alloc _).alloc _).drew | with_reducible exact hHeld.below hb4 | with_reducible exact hHeld.below hb5 | with_reducible exact hHeld.alloc _ | with_reducible exact hHeld.far (by omega) _ _ _ | with_reducible exact K5.alloc _ | with_reducible exact (K5.alloc _).alloc _ | with_reducible exact (K5.alloc _).far (by omega) _ _ _ | with_reducible exact (K5.far (by omega) _ _ _).alloc _ | with_reducible exact ((K5.alloc _).alloc _).far (by omega) _ _ _)
              clear hK K hHeld
              have hHeld := hHeld2
              clear hHeld2
              try simp only [Act.put, List.setIfInBounds_toArray, List.set_cons_zero, List.set_cons_succ]
              refine wpAnyH_ready (rs := [7]) (by kernel_rfl) (by simp) ?rdy5188
              refine (AllReadyH.cons (List.getElem?_toArray.trans rfl) (fun K hK => ?stp5188_7) AllReadyH.nil)
              case stp5188_7 =>
                go_simp
                go_wp2_with fail
                refine hK.out _ _ ?hSn5189 (fun hHeld2 => ?rest5189)
                case hSn5189 => (first | with_reducible exact R0.drew | with_reducible exact (R0.alloc _).drew | with_reducible exact ((R0.alloc _).alloc _).drew | with_reducible exact hHeld.below hb4 | with_reducible exact hHeld.below hb5 | with_reducible exact hHeld.alloc _ | with_reducible exact hHeld.far (by omega) _ _ _ | with_reducible exact K5.alloc _ | with_reducible exact (K5.alloc _).alloc _ | with_reducible exact (K5.alloc _).far (by omega) _ _ _ | with_reducible exact (K5.far (by omega) _ _ _).alloc _ | with_reducible exact ((K5.alloc _).alloc _).far (by omega) _ _ _)
                clear hK K hHeld
                have hHeld := hHeld2
                clear hHeld2
                try simp only [Act.put, List.setIfInBounds_toArray, List.set_cons_zero, List.set_cons_succ]
                refine wpAnyH_done (by kernel_rfl) ?_ _
                go_wp2_with fail
                go_meet
                case rel => exact ⟨_, _, rfl, rfl, (by (repeat (first | with_reducible exact Blk.new _ _ _ | with_reducible exact Blk.newB _ _ _ _ | with_reducible exact Blk.news3 _ _ _ _ _ _ _ _ _ | with_reducible exact U5 | with_reducible exact V5 | with_reducible exact X5 | with_reducible exact Y5 | with_reducible refine Blk.put3 (x := .bool false) (y := .int .u64 0) (z := .int .u64 0) ?_ _ _ _ | with_reducible refine Blk.far3 ?_ (by omega) _ _ _ | with_reducible refine Blk.alloc ?_ _))), (by (repeat (first | with_reducible exact Blk.new _ _ _ | with_reducible exact Blk.newB _ _ _ _ | with_reducible exact Blk.news3 _ _ _ _ _ _ _ _ _ | with_reducible exact U5 | with_reducible exact V5 | with_reducible exact X5 | with_reducible exact Y5 | with_reducible refine Blk.put3 (x := .bool false) (y := .int .u64 0) (z := .int .u64 0) ?_ _ _ _ | with_reducible refine Blk.far3 ?_ (by omega) _ _ _ | with_reducible refine Blk.alloc ?_ _))), hHeld⟩
    case stp5112_5 =>
      go_simp
      go_wp2_with fail
      refine hK.out _ _ ?hSn5190 (fun hHeld2 => ?rest5190)
      case hSn5190 => (first | with_reducible exact R0.drew | with_reducible exact (R0.alloc _).drew | with_reducible exact ((R0.alloc _).alloc _).drew | with_reducible exact hHeld.below hb4 | with_reducible exact hHeld.below hb5 | with_reducible exact hHeld.alloc _ | with_reducible exact hHeld.far (by omega) _ _ _ | with_reducible exact K5.alloc _ | with_reducible exact (K5.alloc _).alloc _ | with_reducible exact (K5.alloc _).far (by omega) _ _ _ | with_reducible exact (K5.far (by omega) _ _ _).alloc _ | with_reducible exact ((K5.alloc _).alloc _).far (by omega) _ _ _)
      clear hK K hHeld
      have hHeld := hHeld2
      clear hHeld2
      try simp only [Act.put, List.setIfInBounds_toArray, List.set_cons_zero, List.set_cons_succ]
      refine wpAnyH_ready (rs := [1, 4]) (by kernel_rfl) (by simp) ?rdy5191
      refine (AllReadyH.cons (List.getElem?_toArray.trans rfl) (fun K hK => ?stp5191_1) (AllReadyH.cons (List.getElem?_toArray.trans rfl) (fun K hK => ?stp5191_4) AllReadyH.nil))
      case stp5191_1 =>
        go_simp
        go_wp2_with fail
        (refine (CF.out _).mono ?_; rintro e w4 ⟨rfl, hb4⟩; have s4 : w0.heap.size ≤ w4.heap.size := (by have := hb4.size; first | exact this | (simp at this; omega)); first | (have U4 : Blk w4 w0.heap.size #[.bool false, .int .u64 0, .int .u64 0] 26 := Blk.via hb4 ((Blk.new w0 #[.bool false, .int .u64 0, .int .u64 0] 26).alloc (.cells #[.bool false, .int .u64 0, .int .u64 0] 26)) rfl; have V4 : Blk w4 (w0.heap.size + 1) #[.bool false, .int .u64 0, .int .u64 0] 26 := Blk.via hb4 (Blk.newB w0 (.cells #[.bool false, .int .u64 0, .int .u64 0] 26) #[.bool false, .int .u64 0, .int .u64 0] 26) rfl; obtain ⟨u0, u1, u2, u3, u4, u5, u6⟩ := U4.three; obtain ⟨y0, y1, y2, y3, y4, y5, y6⟩ := V4.three) | (have U4 : Blk w4 w0.heap.size #[.bool false, .int .u64 0, .int .u64 0] 26 := Blk.via hb4 (Blk.new w0 #[.bool false, .int .u64 0, .int .u64 0] 26) rfl; obtain ⟨u0, u1, u2, u3, u4, u5, u6⟩ := U4.three) | skip)
        go_wp2_with fail
        refine hK.out _ _ ?hSn5192 (fun hHeld2 => ?rest5192)
        case hSn5192 => (first | with_reducible exact R0.drew | with_reducible exact (R0.alloc _).drew | with_reducible exact ((R0.alloc _).alloc _).drew | with_reducible exact hHeld.below hb4 | with_reducible exact hHeld.below hb5 | with_reducible exact hHeld.alloc _ | with_reducible exact hHeld.far (by omega) _ _ _ | with_reducible exact K5.alloc _ | with_reducible exact (K5.alloc _).alloc _ | with_reducible exact (K5.alloc _).far (by omega) _ _ _ | with_reducible exact (K5.far (by omega) _ _ _).alloc _ | with_reducible exact ((K5.alloc _).alloc _).far (by omega) _ _ _)
        clear hK K hHeld
        have hHeld := hHeld2
        clear hHeld2
        try simp only [Act.put, List.setIfInBounds_toArray, List.set_cons_zero, List.set_cons_succ]
        refine wpAnyH_ready (rs := [3, 4]) (by kernel_rfl) (by simp) ?rdy5193
        refine (AllReadyH.cons (List.getElem?_toArray.trans rfl) (fun K hK => ?stp5193_3) (AllReadyH.cons (List.getElem?_toArray.trans rfl) (fun K hK => ?stp5193_4) AllReadyH.nil))
        case stp5193_3 =>
          go_simp
          go_wp2_with fail
          (refine (CL.out _).mono ?_; rintro e w5 ⟨rfl, hb5⟩; have K5 := hHeld.below hb5; have s5 : w4.heap.size ≤ w5.heap.size := (by have := hb5.size; first | exact this | (simp at this; omega)); (first | (have U5 := U4.below hb5; obtain ⟨a0, a1, a2, a3, a4, a5, a6⟩ := U5.three) | (have U5 := Blk.via hb5 (U4.alloc (.cells #[.bool false, .int .u64 0, .int .u64 0] 26)) rfl; obtain ⟨a0, a1, a2, a3, a4, a5, a6⟩ := U5.three) | (have U5 := Blk.via hb5 ((U4.alloc (.cells #[.bool false, .int .u64 0, .int .u64 0] 26)).alloc (.cells #[.bool false, .int .u64 0, .int .u64 0] 26)) rfl; obtain ⟨a0, a1, a2, a3, a4, a5, a6⟩ := U5.three) | skip); (first | (have V5 := V4.below hb5; obtain ⟨b0, b1, b2, b3, b4, b5, b6⟩ := V5.three) | (have V5 := Blk.via hb5 (V4.alloc (.cells #[.bool false, .int .u64 0, .int .u64 0] 26)) rfl; obtain ⟨b0, b1, b2, b3, b4, b5, b6⟩ := V5.three) | (have V5 := Blk.via hb5 ((V4.alloc (.cells #[.bool false, .int .u64 0, .int .u64 0] 26)).alloc (.cells #[.bool false, .int .u64 0, .int .u64 0] 26)) rfl; obtain ⟨b0, b1, b2, b3, b4, b5, b6⟩ := V5.three) | skip); first | (have X5 : Blk w5 w4.heap.size #[.bool false, .int .u64 0, .int .u64 0] 26 := Blk.via hb5 ((Blk.new w4 #[.bool false, .int .u64 0, .int .u64 0] 26).alloc (.cells #[.bool false, .int .u64 0, .int .u64 0] 26)) rfl; have Y5 : Blk w5 (w4.heap.size + 1) #[.bool false, .int .u64 0, .int .u64 0] 26 := Blk.via hb5 (Blk.newB w4 (.cells #[.bool false, .int .u64 0, .int .u64 0] 26) #[.bool false, .int .u64 0, .int .u64 0] 26) rfl; obtain ⟨p0, p1, p2, p3, p4, p5, p6⟩ := X5.three; obtain ⟨q0, q1, q2, q3, q4, q5, q6⟩ := Y5.three) | (have X5 : Blk w5 w4.heap.size #[.bool false, .int .u64 0, .int .u64 0] 26 := Blk.via hb5 (Blk.new w4 #[.bool false, .int .u64 0, .int .u64 0] 26) rfl; obtain ⟨p0, p1, p2, p3, p4, p5, p6⟩ := X5.three) | skip)
          go_wp2_with fail
          refine hK.out _ _ ?hSn5194 (fun hHeld2 => ?rest5194)
          case hSn5194 => (first | with_reducible exact R0.drew | with_reducible exact (R0.alloc _).drew | with_reducible exact ((R0.alloc _).alloc _).drew | with_reducible exact hHeld.below hb4 | with_reducible exact hHeld.below hb5 | with_reducible exact hHeld.alloc _ | with_reducible exact hHeld.far (by omega) _ _ _ | with_reducible exact K5.alloc _ | with_reducible exact (K5.alloc _).alloc _ | with_reducible exact (K5.alloc _).far (by omega) _ _ _ | with_reducible exact (K5.far (by omega) _ _ _).alloc _ | with_reducible exact ((K5.alloc _).alloc _).far (by omega) _ _ _)
          clear hK K hHeld
          have hHeld := hHeld2
          clear hHeld2
          try simp only [Act.put, List.setIfInBounds_toArray, List.set_cons_zero, List.set_cons_succ]
          refine wpAnyH_ready (rs := [4]) (by kernel_rfl) (by simp) ?rdy5195
          refine (AllReadyH.cons (List.getElem?_toArray.trans rfl) (fun K hK => ?stp5195_4) AllReadyH.nil)
          case stp5195_4 =>
            go_simp
            go_wp2_with fail
            refine hK.out _ _ ?hSn5196 (fun hHeld2 => ?rest5196)
            case hSn5196 => (first | with_reducible exact R0.drew | with_reducible exact (R0.alloc _).drew | with_reducible exact ((R0.alloc _).alloc _).drew | with_reducible exact hHeld.below hb4 | with_reducible exact hHeld.below hb5 | with_reducible exact hHeld.alloc _ | with_reducible exact hHeld.far (by omega) _ _ _ | with_reducible exact K5.alloc _ | with_reducible exact (K5.alloc _).alloc _ | with_reducible exact (K5.alloc _).far (by omega) _ _ _ | with_reducible exact (K5.far (by omega) _ _ _).alloc _ | with_reducible exact ((K5.alloc _).alloc _).far (by omega) _ _ _)
            clear hK K hHeld
            have hHeld := hHeld2
            clear hHeld2
            try simp only [Act.put, List.setIfInBounds_toArray, List.set_cons_zero, List.set_cons_succ]
            refine wpAnyH_ready (rs := [6]) (by kernel_rfl) (by simp) ?rdy5197
            refine (AllReadyH.cons (List.getElem?_toArray.trans rfl) (fun K hK => ?stp5197_6) AllReadyH.nil)
            case stp5197_6 =>
              go_simp
              go_wp2_with fail
              refine hK.out _ _ ?hSn5198 (fun hHeld2 => ?rest5198)
              case hSn5198 => (first | with_reducible exact R0.drew | with_reducible exact (R0.alloc _).drew | with_reducible exact ((R0.alloc _).alloc _).drew | with_reducible exact hHeld.below hb4 | with_reducible exact hHeld.below hb5 | with_reducible exact hHeld.alloc _ | with_reducible exact hHeld.far (by omega) _ _ _ | with_reducible exact K5.alloc _ | with_reducible exact (K5.alloc _).alloc _ | with_reducible exact (K5.alloc _).far (by omega) _ _ _ | with_reducible exact (K5.far (by omega) _ _ _).alloc _ | with_reducible exact ((K5.alloc _).alloc _).far (by omega) _ _ _)
              clear hK K hHeld
              have hHeld := hHeld2
              clear hHeld2
              try simp only [Act.put, List.setIfInBounds_toArray, List.set_cons_zero, List.set_cons_succ]
              refine wpAnyH_ready (rs := [7]) (by kernel_rfl) (by simp) ?rdy5199
              refine (AllReadyH.cons (List.getElem?_toArray.trans rfl) (fun K hK => ?stp5199_7) AllReadyH.nil)
              case stp5199_7 =>
                go_simp
                go_wp2_with fail
                refine hK.out _ _ ?hSn5200 (fun hHeld2 => ?rest5200)
                case hSn5200 => (first | with_reducible exact R0.drew | with_reducible exact (R0.alloc _).drew | with_reducible exact ((R0.alloc _).alloc _).drew | with_reducible exact hHeld.below hb4 | with_reducible exact hHeld.below hb5 | with_reducible exact hHeld.alloc _ | with_reducible exact hHeld.far (by omega) _ _ _ | with_reducible exact K5.alloc _ | with_reducible exact (K5.alloc _).alloc _ | with_reducible exact (K5.alloc _).far (by omega) _ _ _ | with_reducible exact (K5.far (by omega) _ _ _).alloc _ | with_reducible exact ((K5.alloc _).alloc _).far (by omega) _ _ _)
                clear hK K hHeld
                have hHeld := hHeld2
                clear hHeld2
                try simp only [Act.put, List.setIfInBounds_toArray, List.set_cons_zero, List.set_cons_succ]
                refine wpAnyH_done (by kernel_rfl) ?_ _
                go_wp2_with fail
                go_meet
                case rel => exact ⟨_, _, rfl, rfl, (by (repeat (first | with_reducible exact Blk.new _ _ _ | with_reducible exact Blk.newB _ _ _ _ | with_reducible exact Blk.news3 _ _ _ _ _ _ _ _ _ | with_reducible exact U5 | with_reducible exact V5 | with_reducible exact X5 | with_reducible exact Y5 | with_reducible refine Blk.put3 (x := .bool false) (y := .int .u64 0) (z := .int .u64 0) ?_ _ _ _ | with_reducible refine Blk.far3 ?_ (by omega) _ _ _ | with_reducible refine Blk.alloc ?_ _))), (by (repeat (first | with_reducible exact Blk.new _ _ _ | with_reducible exact Blk.newB _ _ _ _ | with_reducible exact Blk.news3 _ _ _ _ _ _ _ _ _ | with_reducible exact U5 | with_reducible exact V5 | with_reducible exact X5 | with_reducible exact Y5 | with_reducible refine Blk.put3 (x := .bool false) (y := .int .u64 0) (z := .int .u64 0) ?_ _ _ _ | with_reducible refine Blk.far3 ?_ (by omega) _ _ _ | with_reducible refine Blk.alloc ?_ _))), hHeld⟩
        case stp5193_4 =>
          go_simp
          go_wp2_with fail
          refine hK.out _ _ ?hSn5201 (fun hHeld2 => ?rest5201)
          case hSn5201 => (first | with_reducible exact R0.drew | with_reducible exact (R0.alloc _).drew | with_reducible exact ((R0.alloc _).alloc _).drew | with_reducible exact hHeld.below hb4 | with_reducible exact hHeld.below hb5 | with_reducible exact hHeld.alloc _ | with_reducible exact hHeld.far (by omega) _ _ _ | with_reducible exact K5.alloc _ | with_reducible exact (K5.alloc _).alloc _ | with_reducible exact (K5.alloc _).far (by omega) _ _ _ | with_reducible exact (K5.far (by omega) _ _ _).alloc _ | with_reducible exact ((K5.alloc _).alloc _).far (by omega) _ _ _)
          clear hK K hHeld
          have hHeld := hHeld2
          clear hHeld2
          try simp only [Act.put, List.setIfInBounds_toArray, List.set_cons_zero, List.set_cons_succ]
          refine wpAnyH_ready (rs := [3]) (by kernel_rfl) (by simp) ?rdy5202
          refine (AllReadyH.cons (List.getElem?_toArray.trans rfl) (fun K hK => ?stp5202_3) AllReadyH.nil)
          case stp5202_3 =>
            go_simp
            go_wp2_with fail
            (refine (CL.out _).mono ?_; rintro e w5 ⟨rfl, hb5⟩; have K5 := hHeld.below hb5; have s5 : w4.heap.size ≤ w5.heap.size := (by have := hb5.size; first | exact this | (simp at this; omega)); (first | (have U5 := U4.below hb5; obtain ⟨a0, a1, a2, a3, a4, a5, a6⟩ := U5.three) | (have U5 := Blk.via hb5 (U4.alloc (.cells #[.bool false, .int .u64 0, .int .u64 0] 26)) rfl; obtain ⟨a0, a1, a2, a3, a4, a5, a6⟩ := U5.three) | (have U5 := Blk.via hb5 ((U4.alloc (.cells #[.bool false, .int .u64 0, .int .u64 0] 26)).alloc (.cells #[.bool false, .int .u64 0, .int .u64 0] 26)) rfl; obtain ⟨a0, a1, a2, a3, a4, a5, a6⟩ := U5.three) | skip); (first | (have V5 := V4.below hb5; obtain ⟨b0, b1, b2, b3, b4, b5, b6⟩ := V5.three) | (have V5 := Blk.via hb5 (V4.alloc (.cells #[.bool false, .int .u64 0, .int .u64 0] 26)) rfl; obtain ⟨b0, b1, b2, b3, b4, b5, b6⟩ := V5.three) | (have V5 := Blk.via hb5 ((V4.alloc (.cells #[.bool false, .int .u64 0, .int .u64 0] 26)).alloc (.cells #[.bool false, .int .u64 0, .int .u64 0] 26)) rfl; obtain ⟨b0, b1, b2, b3, b4, b5, b6⟩ := V5.three) | skip); first | (have X5 : Blk w5 w4.heap.size #[.bool false, .int .u64 0, .int .u64 0] 26 := Blk.via hb5 ((Blk.new w4 #[.bool false, .int .u64 0, .int .u64 0] 26).alloc (.cells #[.bool false, .int .u64 0, .int .u64 0] 26)) rfl; have Y5 : Blk w5 (w4.heap.size + 1) #[.bool false, .int .u64 0, .int .u64 0] 26 := Blk.via hb5 (Blk.newB w4 (.cells #[.bool false, .int .u64 0, .int .u64 0] 26) #[.bool false, .int .u64 0, .int .u64 0] 26) rfl; obtain ⟨p0, p1, p2, p3, p4, p5, p6⟩ := X5.three; obtain ⟨q0, q1, q2, q3, q4, q5, q6⟩ := Y5.three) | (have X5 : Blk w5 w4.heap.size #[.bool false, .int .u64 0, .int .u64 0] 26 := Blk.via hb5 (Blk.new w4 #[.bool false, .int .u64 0, .int .u64 0] 26) rfl; obtain ⟨p0, p1, p2, p3, p4, p5, p6⟩ := X5.three) | skip)
            go_wp2_with fail
            refine hK.out _ _ ?hSn5203 (fun hHeld2 => ?rest5203)
            case hSn5203 => (first | with_reducible exact R0.drew | with_reducible exact (R0.alloc _).drew | with_reducible exact ((R0.alloc _).alloc _).drew | with_reducible exact hHeld.below hb4 | with_reducible exact hHeld.below hb5 | with_reducible exact hHeld.alloc _ | with_reducible exact hHeld.far (by omega) _ _ _ | with_reducible exact K5.alloc _ | with_reducible exact (K5.alloc _).alloc _ | with_reducible exact (K5.alloc _).far (by omega) _ _ _ | with_reducible exact (K5.far (by omega) _ _ _).alloc _ | with_reducible exact ((K5.alloc _).alloc _).far (by omega) _ _ _)
            clear hK K hHeld
            have hHeld := hHeld2
            clear hHeld2
            try simp only [Act.put, List.setIfInBounds_toArray, List.set_cons_zero, List.set_cons_succ]
            refine wpAnyH_ready (rs := [6]) (by kernel_rfl) (by simp) ?rdy5204
            refine (AllReadyH.cons (List.getElem?_toArray.trans rfl) (fun K hK => ?stp5204_6) AllReadyH.nil)
            case stp5204_6 =>
              go_simp
              go_wp2_with fail
              refine hK.out _ _ ?hSn5205 (fun hHeld2 => ?rest5205)
              case hSn5205 => (first | with_reducible exact R0.drew | with_reducible exact (R0.alloc _).drew | with_reducible exact ((R0.alloc _).alloc _).drew | with_reducible exact hHeld.below hb4 | with_reducible exact hHeld.below hb5 | with_reducible exact hHeld.alloc _ | with_reducible exact hHeld.far (by omega) _ _ _ | with_reducible exact K5.alloc _ | with_reducible exact (K5.alloc _).alloc _ | with_reducible exact (K5.alloc _).far (by omega) _ _ _ | with_reducible exact (K5.far (by omega) _ _ _).alloc _ | with_reducible exact ((K5.alloc _).alloc _).far (by omega) _ _ _)
              clear hK K hHeld
              have hHeld := hHeld2
              clear hHeld2
              try simp only [Act.put, List.setIfInBounds_toArray, List.set_cons_zero, List.set_cons_succ]
              refine wpAnyH_ready (rs := [7]) (by kernel_rfl) (by simp) ?rdy5206
              refine (AllReadyH.cons (List.getElem?_toArray.trans rfl) (fun K hK => ?stp5206_7) AllReadyH.nil)
              case stp5206_7 =>
                go_simp
                go_wp2_with fail
                refine hK.out _ _ ?hSn5207 (fun hHeld2 => ?rest5207)
                case hSn5207 => (first | with_reducible exact R0.drew | with_reducible exact (R0.alloc _).drew | with_reducible exact ((R0.alloc _).alloc _).drew | with_reducible exact hHeld.below hb4 | with_reducible exact hHeld.below hb5 | with_reducible exact hHeld.alloc _ | with_reducible exact hHeld.far (by omega) _ _ _ | with_reducible exact K5.alloc _ | with_reducible exact (K5.alloc _).alloc _ | with_reducible exact (K5.alloc _).far (by omega) _ _ _ | with_reducible exact (K5.far (by omega) _ _ _).alloc _ | with_reducible exact ((K5.alloc _).alloc _).far (by omega) _ _ _)
                clear hK K hHeld
                have hHeld := hHeld2
                clear hHeld2
                try simp only [Act.put, List.setIfInBounds_toArray, List.set_cons_zero, List.set_cons_succ]
                refine wpAnyH_done (by kernel_rfl) ?_ _
                go_wp2_with fail
                go_meet
                case rel => exact ⟨_, _, rfl, rfl, (by (repeat (first | with_reducible exact Blk.new _ _ _ | with_reducible exact Blk.newB _ _ _ _ | with_reducible exact Blk.news3 _ _ _ _ _ _ _ _ _ | with_reducible exact U5 | with_reducible exact V5 | with_reducible exact X5 | with_reducible exact Y5 | with_reducible refine Blk.put3 (x := .bool false) (y := .int .u64 0) (z := .int .u64 0) ?_ _ _ _ | with_reducible refine Blk.far3 ?_ (by omega) _ _ _ | with_reducible refine Blk.alloc ?_ _))), (by (repeat (first | with_reducible exact Blk.new _ _ _ | with_reducible exact Blk.newB _ _ _ _ | with_reducible exact Blk.news3 _ _ _ _ _ _ _ _ _ | with_reducible exact U5 | with_reducible exact V5 | with_reducible exact X5 | with_reducible exact Y5 | with_reducible refine Blk.put3 (x := .bool false) (y := .int .u64 0) (z := .int .u64 0) ?_ _ _ _ | with_reducible refine Blk.far3 ?_ (by omega) _ _ _ | with_reducible refine Blk.alloc ?_ _))), hHeld⟩
      case stp5191_4 =>
        go_simp
        go_wp2_with fail
        refine hK.out _ _ ?hSn5208 (fun hHeld2 => ?rest5208)
        case hSn5208 => (first | with_reducible exact R0.drew | with_reducible exact (R0.alloc _).drew | with_reducible exact ((R0.alloc _).alloc _).drew | with_reducible exact hHeld.below hb4 | with_reducible exact hHeld.below hb5 | with_reducible exact hHeld.alloc _ | with_reducible exact hHeld.far (by omega) _ _ _ | with_reducible exact K5.alloc _ | with_reducible exact (K5.alloc _).alloc _ | with_reducible exact (K5.alloc _).far (by omega) _ _ _ | with_reducible exact (K5.far (by omega) _ _ _).alloc _ | with_reducible exact ((K5.alloc _).alloc _).far (by omega) _ _ _)
        clear hK K hHeld
        have hHeld := hHeld2
        clear hHeld2
        try simp only [Act.put, List.setIfInBounds_toArray, List.set_cons_zero, List.set_cons_succ]
        refine wpAnyH_ready (rs := [1]) (by kernel_rfl) (by simp) ?rdy5209
        refine (AllReadyH.cons (List.getElem?_toArray.trans rfl) (fun K hK => ?stp5209_1) AllReadyH.nil)
        case stp5209_1 =>
          go_simp
          go_wp2_with fail
          (refine (CF.out _).mono ?_; rintro e w4 ⟨rfl, hb4⟩; have s4 : w0.heap.size ≤ w4.heap.size := (by have := hb4.size; first | exact this | (simp at this; omega)); first | (have U4 : Blk w4 w0.heap.size #[.bool false, .int .u64 0, .int .u64 0] 26 := Blk.via hb4 ((Blk.new w0 #[.bool false, .int .u64 0, .int .u64 0] 26).alloc (.cells #[.bool false, .int .u64 0, .int .u64 0] 26)) rfl; have V4 : Blk w4 (w0.heap.size + 1) #[.bool false, .int .u64 0, .int .u64 0] 26 := Blk.via hb4 (Blk.newB w0 (.cells #[.bool false, .int .u64 0, .int .u64 0] 26) #[.bool false, .int .u64 0, .int .u64 0] 26) rfl; obtain ⟨u0, u1, u2, u3, u4, u5, u6⟩ := U4.three; obtain ⟨y0, y1, y2, y3, y4, y5, y6⟩ := V4.three) | (have U4 : Blk w4 w0.heap.size #[.bool false, .int .u64 0, .int .u64 0] 26 := Blk.via hb4 (Blk.new w0 #[.bool false, .int .u64 0, .int .u64 0] 26) rfl; obtain ⟨u0, u1, u2, u3, u4, u5, u6⟩ := U4.three) | skip)
          go_wp2_with fail
          refine hK.out _ _ ?hSn5210 (fun hHeld2 => ?rest5210)
          case hSn5210 => (first | with_reducible exact R0.drew | with_reducible exact (R0.alloc _).drew | with_reducible exact ((R0.alloc _).alloc _).drew | with_reducible exact hHeld.below hb4 | with_reducible exact hHeld.below hb5 | with_reducible exact hHeld.alloc _ | with_reducible exact hHeld.far (by omega) _ _ _ | with_reducible exact K5.alloc _ | with_reducible exact (K5.alloc _).alloc _ | with_reducible exact (K5.alloc _).far (by omega) _ _ _ | with_reducible exact (K5.far (by omega) _ _ _).alloc _ | with_reducible exact ((K5.alloc _).alloc _).far (by omega) _ _ _)
          clear hK K hHeld
          have hHeld := hHeld2
          clear hHeld2
          try simp only [Act.put, List.setIfInBounds_toArray, List.set_cons_zero, List.set_cons_succ]
          refine wpAnyH_ready (rs := [3]) (by kernel_rfl) (by simp) ?rdy5211
          refine (AllReadyH.cons (List.getElem?_toArray.trans rfl) (fun K hK => ?stp5211_3) AllReadyH.nil)
          case stp5211_3 =>
            go_simp
            go_wp2_with fail
            (refine (CL.out _).mono ?_; rintro e w5 ⟨rfl, hb5⟩; have K5 := hHeld.below hb5; have s5 : w4.heap.size ≤ w5.heap.size := (by have := hb5.size; first | exact this | (simp at this; omega)); (first | (have U5 := U4.below hb5; obtain ⟨a0, a1, a2, a3, a4, a5, a6⟩ := U5.three) | (have U5 := Blk.via hb5 (U4.alloc (.cells #[.bool false, .int .u64 0, .int .u64 0] 26)) rfl; obtain ⟨a0, a1, a2, a3, a4, a5, a6⟩ := U5.three) | (have U5 := Blk.via hb5 ((U4.alloc (.cells #[.bool false, .int .u64 0, .int .u64 0] 26)).alloc (.cells #[.bool false, .int .u64 0, .int .u64 0] 26)) rfl; obtain ⟨a0, a1, a2, a3, a4, a5, a6⟩ := U5.three) | skip); (first | (have V5 := V4.below hb5; obtain ⟨b0, b1, b2, b3, b4, b5, b6⟩ := V5.three) | (have V5 := Blk.via hb5 (V4.alloc (.cells #[.bool false, .int .u64 0, .int .u64 0] 26)) rfl; obtain ⟨b0, b1, b2, b3, b4, b5, b6⟩ := V5.three) | (have V5 := Blk.via hb5 ((V4.alloc (.cells #[.bool false, .int .u64 0, .int .u64 0] 26)).alloc (.cells #[.bool false, .int .u64 0, .int .u64 0] 26)) rfl; obtain ⟨b0, b1, b2, b3, b4, b5, b6⟩ := V5.three) | skip); first | (have X5 : Blk w5 w4.heap.size #[.bool false, .int .u64 0, .int .u64 0] 26 := Blk.via hb5 ((Blk.new w4 #[.bool false, .int .u64 0, .int .u64 0] 26).alloc (.cells #[.bool false, .int .u64 0, .int .u64 0] 26)) rfl; have Y5 : Blk w5 (w4.heap.size + 1) #[.bool false, .int .u64 0, .int .u64 0] 26 := Blk.via hb5 (Blk.newB w4 (.cells #[.bool false, .int .u64 0, .int .u64 0] 26) #[.bool false, .int .u64 0, .int .u64 0] 26) rfl; obtain ⟨p0, p1, p2, p3, p4, p5, p6⟩ := X5.three; obtain ⟨q0, q1, q2, q3, q4, q5, q6⟩ := Y5.three) | (have X5 : Blk w5 w4.heap.size #[.bool false, .int .u64 0, .int .u64 0] 26 := Blk.via hb5 (Blk.new w4 #[.bool false, .int .u64 0, .int .u64 0] 26) rfl; obtain ⟨p0, p1, p2, p3, p4, p5, p6⟩ := X5.three) | skip)
            go_wp2_with fail
            refine hK.out _ _ ?hSn5212 (fun hHeld2 => ?rest5212)
            case hSn5212 => (first | with_reducible exact R0.drew | with_reducible exact (R0.alloc _).drew | with_reducible exact ((R0.alloc _).alloc _).drew | with_reducible exact hHeld.below hb4 | with_reducible exact hHeld.below hb5 | with_reducible exact hHeld.alloc _ | with_reducible exact hHeld.far (by omega) _ _ _ | with_reducible exact K5.alloc _ | with_reducible exact (K5.alloc _).alloc _ | with_reducible exact (K5.alloc _).far (by omega) _ _ _ | with_reducible exact (K5.far (by omega) _ _ _).alloc _ | with_reducible exact ((K5.alloc _).alloc _).far (by omega) _ _ _)
            clear hK K hHeld
            have hHeld := hHeld2
            clear hHeld2
            try simp only [Act.put, List.setIfInBounds_toArray, List.set_cons_zero, List.set_cons_succ]
            refine wpAnyH_ready (rs := [6]) (by kernel_rfl) (by simp) ?rdy5213
            refine (AllReadyH.cons (List.getElem?_toArray.trans rfl) (fun K hK => ?stp5213_6) AllReadyH.nil)
            case stp5213_6 =>
              go_simp
              go_wp2_with fail
              refine hK.out _ _ ?hSn5214 (fun hHeld2 => ?rest5214)
              case hSn5214 => (first | with_reducible exact R0.drew | with_reducible exact (R0.alloc _).drew | with_reducible exact ((R0.alloc _).alloc _).drew | with_reducible exact hHeld.below hb4 | with_reducible exact hHeld.below hb5 | with_reducible exact hHeld.alloc _ | with_reducible exact hHeld.far (by omega) _ _ _ | with_reducible exact K5.alloc _ | with_reducible exact (K5.alloc _).alloc _ | with_reducible exact (K5.alloc _).far (by omega) _ _ _ | with_reducible exact (K5.far (by omega) _ _ _).alloc _ | with_reducible exact ((K5.alloc _).alloc _).far (by omega) _ _ _)
              clear hK K hHeld
              have hHeld := hHeld2
              clear hHeld2
              try simp only [Act.put, List.setIfInBounds_toArray, List.set_cons_zero, List.set_cons_succ]
              refine wpAnyH_ready (rs := [7]) (by kernel_rfl) (by simp) ?rdy5215
              refine (AllReadyH.cons (List.getElem?_toArray.trans rfl) (fun K hK => ?stp5215_7) AllReadyH.nil)
              case stp5215_7 =>
                go_simp
                go_wp2_with fail
                refine hK.out _ _ ?hSn5216 (fun hHeld2 => ?rest5216)
                case hSn5216 => (first | with_reducible exact R0.drew | with_reducible exact (R0.alloc _).drew | with_reducible exact ((R0.alloc _).alloc _).drew | with_reducible exact hHeld.below hb4 | with_reducible exact hHeld.below hb5 | with_reducible exact hHeld.alloc _ | with_reducible exact hHeld.far (by omega) _ _ _ | with_reducible exact K5.alloc _ | with_reducible exact (K5.alloc _).alloc _ | with_reducible exact (K5.alloc _).far (by omega) _ _ _ | with_reducible exact (K5.far (by omega) _ _ _).alloc _ | with_reducible exact ((K5.alloc _).alloc _).far (by omega) _ _ _)
                clear hK K hHeld
                have hHeld := hHeld2
                clear hHeld2
                try simp only [Act.put, List.setIfInBounds_toArray, List.set_cons_zero, List.set_cons_succ]
                refine wpAnyH_done (by kernel_rfl) ?_ _
                go_wp2_with fail
                go_meet
                case rel => exact ⟨_, _, rfl, rfl, (by (repeat (first | with_reducible exact Blk.new _ _ _ | with_reducible exact Blk.newB _ _ _ _ | with_reducible exact Blk.news3 _ _ _ _ _ _ _ _ _ | with_reducible exact U5 | with_reducible exact V5 | with_reducible exact X5 | with_reducible exact Y5 | with_reducible refine Blk.put3 (x := .bool false) (y := .int .u64 0) (z := .int .u64 0) ?_ _ _ _ | with_reducible refine Blk.far3 ?_ (by omega) _ _ _ | with_reducible refine Blk.alloc ?_ _))), (by (repeat (first | with_reducible exact Blk.new _ _ _ | with_reducible exact Blk.newB _ _ _ _ | with_reducible exact Blk.news3 _ _ _ _ _ _ _ _ _ | with_reducible exact U5 | with_reducible exact V5 | with_reducible exact X5 | with_reducible exact Y5 | with_reducible refine Blk.put3 (x := .bool false) (y := .int .u64 0) (z := .int .u64 0) ?_ _ _ _ | with_reducible refine Blk.far3 ?_ (by omega) _ _ _ | with_reducible refine Blk.alloc ?_ _))), hHeld⟩
  case rest =>
    obtain ⟨X, Y, rfl, rfl, KX, KY, RR⟩ := hcut
    have R := BT.of RR.2 KX KY
    clear R0 CF CL KX KY RR hs0
    have F := R.1
    go_wp2_with fail
    refine (C1.out _).mono ?_
    rintro e w1 ⟨m, rfl, hm, hb⟩
    replace R := R.below hb
    replace F := R.1
    have hm' : ¬ m < 0 := by rw [hm.out, cmpI_neg]; have := HC.out; omega
    clear hb C1 hm
    go_wp2_with fail
    refine (C2.out _).mono ?_
    rintro e w2 ⟨m2, rfl, hm2, hb⟩
    replace R := R.below hb
    replace F := R.1
    have hm2' : ¬ m2 < 0 := by rw [hm2.out, cmpI_neg]; have := HC.out; omega
    clear hb C2 hm2
    go_wp2_with fail
    refine (C3.out _).mono ?_
    rintro e w3 ⟨m3, rfl, hm3, hb⟩
    replace R := R.below hb
    replace F := R.1
    clear hb C3
    by_cases c3 : a ≤ n
    · have hm3' : m3 ≤ 0 := by rw [hm3.out, cmpI_le]; omega
      clear hm3
      go_wp2_with fail
      refine (C4.out _).mono ?_
      rintro e w4 ⟨m4, rfl, hm4, hb⟩
      replace R := R.below hb
      replace F := R.1
      have hm4' : ¬ m4 ≤ 0 := by rw [hm4.out, cmpI_le]; have := HC.out; omega
      clear hb C4 hm4
      go_wp2_with fail
      refine (CH.out _).mono ?_
      rintro e w6 ⟨rfl, hb⟩
      have R6 := R.below hb
      have Q6 : K3 w v h l b ah al zh zl ((w6.alloc (.cells #[.bool v, .int .u64 h, .int .u64 l, .int .i64 (b + 1)] 28)).alloc (.cells #[.bool v, .int .u64 rh, .int .u64 rl, .int .i64 (b + 1)] 28)) := (R6.2.1.alloc _).alloc _
      have Y6 : Blk ((w6.alloc (.cells #[.bool v, .int .u64 h, .int .u64 l, .int .i64 (b + 1)] 28)).alloc (.cells #[.bool v, .int .u64 rh, .int .u64 rl, .int .i64 (b + 1)] 28)) (w6.heap.size + 1) #[.bool v, .int .u64 rh, .int .u64 rl, .int .i64 (b + 1)] 28 := Blk.newB _ _ _ _
      have z6 := R6.2.1.2.2.1.lt
      have R7 := (R6.alloc (.cells #[.bool v, .int .u64 h, .int .u64 l, .int .i64 (b + 1)] 28)).alloc (.cells #[.bool v, .int .u64 rh, .int .u64 rl, .int .i64 (b + 1)] 28)
      replace F := R7.1
      have B6 := Q6.2.2.2
      have O6 := own_kept HO.out B6
      have J1 := I1.out _ O6 (Nat.le_trans hB B6.size)
      clear hb CH R O6 I1
      go_wp2_with fail
      refine J1.mono ?_
      rintro e w8 ⟨val1, rfl, hS⟩
      have nb : ∀ x, w.heap.size ≤ x → some x ≠ val.ownBlock := fun x hx e => by
        have := (HO.out.lt x e.symm).2
        omega
      have G := hS.2.1
      have A8 := Q6.2.1.grown G (nb _ (by omega))
      have Z8 := Q6.2.2.1.grown G (nb _ (by omega))
      have Y8 := Y6.grown G (nb _ (by omega))
      have F8 : U3 w (w6.heap.size + 1) v rh rl (b + 1) ah al zh zl w8 := ⟨A8.cell 0, A8.cell 1, A8.cell 2, Z8.cell 0, Z8.cell 1, Z8.cell 2, Y8.cell 0, Y8.cell 1, Y8.cell 2, Y8.cell 3⟩
      have J2 := I2.out val1 w8 hS.1 (Nat.le_trans hB (Nat.le_trans B6.size G.size))
      have HS : Hid _ := hS
      have HB6 : Hid _ := B6
      unfold U3 at F8
      clear hS G A8 Z8 Y8 Y6 Q6 B6 F R6 R7 nb J1 I2
      go_wp2_with fail
      refine J2.mono ?_
      rintro e w9 ⟨val2, rfl, hS2⟩
      have fin := SpOut.trans HB6.out HS.out hS2
      clear hS2 HS HB6 F8 J2
      go_wp2
      go_ret
      exact ⟨_, rfl, fin⟩
    · have hm3' : ¬ m3 ≤ 0 := by rw [hm3.out, cmpI_le]; omega
      clear hm3 C4
      go_wp2_with fail
      refine (CH.out _).mono ?_
      rintro e w6 ⟨rfl, hb⟩
      have R6 := R.below hb
      have Q6 : K3 w v h l b ah al zh zl ((w6.alloc (.cells #[.bool v, .int .u64 h, .int .u64 l, .int .i64 (b + 1)] 28)).alloc (.cells #[.bool v, .int .u64 rh, .int .u64 rl, .int .i64 (b + 1)] 28)) := (R6.2.1.alloc _).alloc _
      have Y6 : Blk ((w6.alloc (.cells #[.bool v, .int .u64 h, .int .u64 l, .int .i64 (b + 1)] 28)).alloc (.cells #[.bool v, .int .u64 rh, .int .u64 rl, .int .i64 (b + 1)] 28)) (w6.heap.size + 1) #[.bool v, .int .u64 rh, .int .u64 rl, .int .i64 (b + 1)] 28 := Blk.newB _ _ _ _
      have z6 := R6.2.1.2.2.1.lt
      have R7 := (R6.alloc (.cells #[.bool v, .int .u64 h, .int .u64 l, .int .i64 (b + 1)] 28)).alloc (.cells #[.bool v, .int .u64 rh, .int .u64 rl, .int .i64 (b + 1)] 28)
      replace F := R7.1
      have B6 := Q6.2.2.2
      have O6 := own_kept HO.out B6
      have J1 := I1.out _ O6 (Nat.le_trans hB B6.size)
      clear hb CH R O6 I1
      go_wp2_with fail
      refine J1.mono ?_
      rintro e w8 ⟨val1, rfl, hS⟩
      have nb : ∀ x, w.heap.size ≤ x → some x ≠ val.ownBlock := fun x hx e => by
        have := (HO.out.lt x e.symm).2
        omega
      have G := hS.2.1
      have A8 := Q6.2.1.grown G (nb _ (by omega))
      have Z8 := Q6.2.2.1.grown G (nb _ (by omega))
      have Y8 := Y6.grown G (nb _ (by omega))
      have F8 : U3 w (w6.heap.size + 1) v rh rl (b + 1) ah al zh zl w8 := ⟨A8.cell 0, A8.cell 1, A8.cell 2, Z8.cell 0, Z8.cell 1, Z8.cell 2, Y8.cell 0, Y8.cell 1, Y8.cell 2, Y8.cell 3⟩
      have J2 := I2.out val1 w8 hS.1 (Nat.le_trans hB (Nat.le_trans B6.size G.size))
      have HS : Hid _ := hS
      have HB6 : Hid _ := B6
      unfold U3 at F8
      clear hS G A8 Z8 Y8 Y6 Q6 B6 F R6 R7 nb J1 I2
      go_wp2_with fail
      refine J2.mono ?_
      rintro e w9 ⟨val2, rfl, hS2⟩
      have fin := SpOut.trans HB6.out HS.out hS2
      clear hS2 HS HB6 F8 J2
      go_wp2
      go_ret
      exact ⟨_, rfl, fin⟩
end Go.Proofs.YtmhnfgfdggjdhaaGreatDoor

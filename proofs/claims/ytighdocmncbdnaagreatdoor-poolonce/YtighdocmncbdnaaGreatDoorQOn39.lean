/-
  Texts Ref4 of the proof.
-/
import Derived.Deep.DeepCutAuto
import Derived.Test.YtighdocmncbdnaaGreatDoorQOn37
import Derived.Test.YtighdocmncbdnaaGreatDoorQOn22
import Derived.Test.YtighdocmncbdnaaGreatDoorQOn38
import Derived.Test.YtighdocmncbdnaaGreatDoorQOn33

namespace Go.Proofs.YtighdocmncbdnaaGreatDoor
open Go.ChangeShapes Go.WideShapes Go.ChangeAt Go.RowKit
set_option linter.unusedVariables false
set_option linter.unusedSimpArgs false

end Go.Proofs.YtighdocmncbdnaaGreatDoor

namespace Go.Proofs.YtighdocmncbdnaaGreatDoor
open Go.ChangeShapes Go.WideShapes Go.ChangeAt Go.RowKit
set_option linter.unusedVariables false
set_option linter.unusedSimpArgs false

set_option maxRecDepth 100000 in
set_option maxHeartbeats 1600000 in
theorem host_any {v rv : Bool} {h l b ih il rh rl rb ec W : Int} (hW : widthA v = W) (BK : Hid (∀ w', Calls Tryz.prog 146 #[pv v h l b, .int .i64 W, nv ih il] w' fun e w1 => e = .returned (.tuple #[pv rv rh rl rb, .int .i64 ec]) ∧ Below w'.heap.size w' w1)) (w : World) :
    Calls Tryz.prog 116 #[pv v h l b, nv ih il] w fun e w' => e = .returned (.tuple #[av rv rh rl, .int .i64 ec]) ∧ Below w.heap.size w w' := by
  have CW : Hid (∀ w', Calls Tryz.prog 49 #[av v h l] w' fun e w1 => e = .returned (.int .i64 W) ∧ Below w'.heap.size w' w1) := fun w' => width_lit v W hW h l w'
  have R0 : Kn w [(w.heap.size + 1 + 1, [.bool false, .int .u64 0, .int .u64 0], 26), (w.heap.size + 1, [.int .u64 ih, .int .u64 il], 24), (w.heap.size, [.bool v, .int .u64 h, .int .u64 l, .int .i64 b], 28)] (((w.alloc (.cells #[.bool v, .int .u64 h, .int .u64 l, .int .i64 b] 28)).alloc (.cells #[.int .u64 ih, .int .u64 il] 24)).alloc (.cells #[.bool false, .int .u64 0, .int .u64 0] 26)) := (((Kn.nil w).push rfl).push (by simp)).push (by simp)
  obtain ⟨w0, hw0⟩ : ∃ w0, w0 = ((w.alloc (.cells #[.bool v, .int .u64 h, .int .u64 l, .int .i64 b] 28)).alloc (.cells #[.int .u64 ih, .int .u64 il] 24)).alloc (.cells #[.bool false, .int .u64 0, .int .u64 0] 26) := ⟨_, rfl⟩
  rw [← hw0] at R0
  have LT := R0.lts
  simp only [Lts] at LT
  have hs0 := R0.bel.size
  clear hW
  go_enter Tryz.func116, Tryz.ntmps116
  go_upto_region 1 with fail
  rw [← hw0]
  clear hw0
  go_cut [6, 7] (fun p t wc => ∃ X : Nat, p = .pointer (some ⟨X, 0, none⟩) ∧ t = .int .i64 ec ∧ w.heap.size + 1 + 1 < X ∧ Blk wc X #[.bool rv, .int .u64 rh, .int .u64 rl, .int .i64 rb] 28 ∧ Kn w [(w.heap.size + 1 + 1, [.bool false, .int .u64 0, .int .u64 0], 26), (w.heap.size + 1, [.int .u64 ih, .int .u64 il], 24), (w.heap.size, [.bool v, .int .u64 h, .int .u64 l, .int .i64 b], 28)] wc)
  case first =>
    refine wp_region_held_drew (S := (Kn w [(w.heap.size + 1 + 1, [.bool false, .int .u64 0, .int .u64 0], 26), (w.heap.size + 1, [.int .u64 ih, .int .u64 il], 24), (w.heap.size, [.bool v, .int .u64 h, .int .u64 l, .int .i64 b], 28)])) (by kernel_rfl) ?hS5001 (fun hHeld => ?rest5001)
    case hS5001 => (first | with_reducible exact R0.drew | with_reducible exact (R0.alloc _).drew | with_reducible exact hHeld.below hb4 | with_reducible exact hHeld.below hb5 | with_reducible exact hHeld.alloc _ | with_reducible exact K5.alloc _ | with_reducible exact hHeld.far4 (by simp only [Off]; repeat' (first | exact trivial | refine And.intro ?_ ?_ | omega)) (by omega) _ _ _ _ | with_reducible exact K5.far4 (by simp only [Off]; repeat' (first | exact trivial | refine And.intro ?_ ?_ | omega)) (by omega) _ _ _ _ | with_reducible exact (K5.alloc _).far4 (by simp only [Off]; repeat' (first | exact trivial | refine And.intro ?_ ?_ | omega)) (by omega) _ _ _ _)
    refine wpAnyH_take (i := 0) (oi := _) (v := ?v5002) (List.getElem?_toArray.trans rfl) (by kernel_rfl) (by kernel_rfl) (by kernel_rfl) (fun _ _ _ h => h) (Or.inl ⟨by rfl, ?hy5002⟩) (by assumption) ?rest5002
    case hy5002 => (intro wq hSw; (try simp only [Two, Kn, Facts, CellsAt] at hSw); go_simp; try with_reducible rfl)
    try simp only [Act.put, List.setIfInBounds_toArray, List.set_cons_zero, List.set_cons_succ]
    refine wpAnyH_take (i := 1) (oi := _) (v := ?v5003) (List.getElem?_toArray.trans rfl) (by kernel_rfl) (by kernel_rfl) (by kernel_rfl) (fun _ _ _ h => h) (Or.inl ⟨by rfl, ?hy5003⟩) (by assumption) ?rest5003
    case hy5003 => (intro wq hSw; (try simp only [Two, Kn, Facts, CellsAt] at hSw); go_simp; try with_reducible rfl)
    try simp only [Act.put, List.setIfInBounds_toArray, List.set_cons_zero, List.set_cons_succ]
    refine wpAnyH_take (i := 2) (oi := _) (v := ?v5004) (List.getElem?_toArray.trans rfl) (by kernel_rfl) (by kernel_rfl) (by kernel_rfl) (fun _ _ _ h => h) (Or.inl ⟨by rfl, ?hy5004⟩) (by assumption) ?rest5004
    case hy5004 => (intro wq hSw; (try simp only [Two, Kn, Facts, CellsAt] at hSw); go_simp; try with_reducible rfl)
    try simp only [Act.put, List.setIfInBounds_toArray, List.set_cons_zero, List.set_cons_succ]
    refine wpAnyH_take (i := 4) (oi := _) (v := ?v5005) (List.getElem?_toArray.trans rfl) (by kernel_rfl) (by kernel_rfl) (by kernel_rfl) (fun _ _ _ h => h) (Or.inl ⟨by rfl, ?hy5005⟩) (by assumption) ?rest5005
    case hy5005 => (intro wq hSw; (try simp only [Two, Kn, Facts, CellsAt] at hSw); go_simp; try with_reducible rfl)
    try simp only [Act.put, List.setIfInBounds_toArray, List.set_cons_zero, List.set_cons_succ]
    refine wpAnyH_ready (rs := [3, 9]) (by kernel_rfl) (by simp) ?rdy5006
    refine (AllReadyH.cons (List.getElem?_toArray.trans rfl) (fun K hK => ?stp5006_3) (AllReadyH.cons (List.getElem?_toArray.trans rfl) (fun K hK => ?stp5006_9) AllReadyH.nil))
    case stp5006_3 =>
      go_simp
      go_wp2_with fail
      (refine (CW.out _).mono ?_; rintro e w4 ⟨rfl, hb4⟩; have s4 : w0.heap.size ≤ w4.heap.size := (by have := hb4.size; first | exact this | (simp at this; omega)); first | (have U4 : Blk w4 w0.heap.size #[.bool false, .int .u64 0, .int .u64 0, .int .i64 0] 28 := Blk.via hb4 (Blk.new w0 #[.bool false, .int .u64 0, .int .u64 0, .int .i64 0] 28) rfl; obtain ⟨u0, u1, u2, u3, u4, u5, u6, u7, u8⟩ := U4.four) | skip)
      go_wp2_with fail
      refine hK.out _ _ ?hSn5007 (fun hHeld2 => ?rest5007)
      case hSn5007 => (first | with_reducible exact R0.drew | with_reducible exact (R0.alloc _).drew | with_reducible exact hHeld.below hb4 | with_reducible exact hHeld.below hb5 | with_reducible exact hHeld.alloc _ | with_reducible exact K5.alloc _ | with_reducible exact hHeld.far4 (by simp only [Off]; repeat' (first | exact trivial | refine And.intro ?_ ?_ | omega)) (by omega) _ _ _ _ | with_reducible exact K5.far4 (by simp only [Off]; repeat' (first | exact trivial | refine And.intro ?_ ?_ | omega)) (by omega) _ _ _ _ | with_reducible exact (K5.alloc _).far4 (by simp only [Off]; repeat' (first | exact trivial | refine And.intro ?_ ?_ | omega)) (by omega) _ _ _ _)
      clear hK K hHeld
      have hHeld := hHeld2
      clear hHeld2
      try simp only [Act.put, List.setIfInBounds_toArray, List.set_cons_zero, List.set_cons_succ]
      refine wpAnyH_ready (rs := [5, 9]) (by kernel_rfl) (by simp) ?rdy5008
      refine (AllReadyH.cons (List.getElem?_toArray.trans rfl) (fun K hK => ?stp5008_5) (AllReadyH.cons (List.getElem?_toArray.trans rfl) (fun K hK => ?stp5008_9) AllReadyH.nil))
      case stp5008_5 =>
        go_simp
        go_wp2_with fail
        (refine (BK.out _).mono ?_; rintro e w5 ⟨rfl, hb5⟩; have K5 := hHeld.below hb5; have s5 : w4.heap.size ≤ w5.heap.size := (by have := hb5.size; first | exact this | (simp at this; omega)); first | (have U5 := U4.below hb5; obtain ⟨a0, a1, a2, a3, a4, a5, a6, a7, a8⟩ := U5.four) | (have U5 : Blk w5 w4.heap.size #[.bool false, .int .u64 0, .int .u64 0, .int .i64 0] 28 := Blk.via hb5 (Blk.new w4 #[.bool false, .int .u64 0, .int .u64 0, .int .i64 0] 28) rfl; obtain ⟨p0, p1, p2, p3, p4, p5, p6, p7, p8⟩ := U5.four) | skip)
        go_wp2_with fail
        refine hK.out _ _ ?hSn5009 (fun hHeld2 => ?rest5009)
        case hSn5009 => (first | with_reducible exact R0.drew | with_reducible exact (R0.alloc _).drew | with_reducible exact hHeld.below hb4 | with_reducible exact hHeld.below hb5 | with_reducible exact hHeld.alloc _ | with_reducible exact K5.alloc _ | with_reducible exact hHeld.far4 (by simp only [Off]; repeat' (first | exact trivial | refine And.intro ?_ ?_ | omega)) (by omega) _ _ _ _ | with_reducible exact K5.far4 (by simp only [Off]; repeat' (first | exact trivial | refine And.intro ?_ ?_ | omega)) (by omega) _ _ _ _ | with_reducible exact (K5.alloc _).far4 (by simp only [Off]; repeat' (first | exact trivial | refine And.intro ?_ ?_ | omega)) (by omega) _ _ _ _)
        clear hK K hHeld
        have hHeld := hHeld2
        clear hHeld2
        try simp only [Act.put, List.setIfInBounds_toArray, List.set_cons_zero, List.set_cons_succ]
        refine wpAnyH_take (i := 6) (oi := _) (v := ?v5010) (List.getElem?_toArray.trans rfl) (by kernel_rfl) (by kernel_rfl) (by kernel_rfl) (fun _ _ _ h => h) (Or.inl ⟨by rfl, ?hy5010⟩) (by assumption) ?rest5010
        case hy5010 => (intro wq hSw; (try simp only [Two, Kn, Facts, CellsAt] at hSw); go_simp; try with_reducible rfl)
        try simp only [Act.put, List.setIfInBounds_toArray, List.set_cons_zero, List.set_cons_succ]
        refine wpAnyH_take (i := 7) (oi := _) (v := ?v5011) (List.getElem?_toArray.trans rfl) (by kernel_rfl) (by kernel_rfl) (by kernel_rfl) (fun _ _ _ h => h) (Or.inl ⟨by rfl, ?hy5011⟩) (by assumption) ?rest5011
        case hy5011 => (intro wq hSw; (try simp only [Two, Kn, Facts, CellsAt] at hSw); go_simp; try with_reducible rfl)
        try simp only [Act.put, List.setIfInBounds_toArray, List.set_cons_zero, List.set_cons_succ]
        refine wpAnyH_take (i := 8) (oi := _) (v := ?v5012) (List.getElem?_toArray.trans rfl) (by kernel_rfl) (by kernel_rfl) (by kernel_rfl) (fun _ _ _ h => h) (Or.inl ⟨by rfl, ?hy5012⟩) (by assumption) ?rest5012
        case hy5012 => (intro wq hSw; (try simp only [Two, Kn, Facts, CellsAt] at hSw); go_simp; try with_reducible rfl)
        try simp only [Act.put, List.setIfInBounds_toArray, List.set_cons_zero, List.set_cons_succ]
        refine wpAnyH_ready (rs := [9]) (by kernel_rfl) (by simp) ?rdy5013
        refine (AllReadyH.cons (List.getElem?_toArray.trans rfl) (fun K hK => ?stp5013_9) AllReadyH.nil)
        case stp5013_9 =>
          go_simp
          go_wp2_with fail
          refine hK.out _ _ ?hSn5014 (fun hHeld2 => ?rest5014)
          case hSn5014 => (first | with_reducible exact R0.drew | with_reducible exact (R0.alloc _).drew | with_reducible exact hHeld.below hb4 | with_reducible exact hHeld.below hb5 | with_reducible exact hHeld.alloc _ | with_reducible exact K5.alloc _ | with_reducible exact hHeld.far4 (by simp only [Off]; repeat' (first | exact trivial | refine And.intro ?_ ?_ | omega)) (by omega) _ _ _ _ | with_reducible exact K5.far4 (by simp only [Off]; repeat' (first | exact trivial | refine And.intro ?_ ?_ | omega)) (by omega) _ _ _ _ | with_reducible exact (K5.alloc _).far4 (by simp only [Off]; repeat' (first | exact trivial | refine And.intro ?_ ?_ | omega)) (by omega) _ _ _ _)
          clear hK K hHeld
          have hHeld := hHeld2
          clear hHeld2
          try simp only [Act.put, List.setIfInBounds_toArray, List.set_cons_zero, List.set_cons_succ]
          refine wpAnyH_ready (rs := [10]) (by kernel_rfl) (by simp) ?rdy5015
          refine (AllReadyH.cons (List.getElem?_toArray.trans rfl) (fun K hK => ?stp5015_10) AllReadyH.nil)
          case stp5015_10 =>
            go_simp
            go_wp2_with fail
            refine hK.out _ _ ?hSn5016 (fun hHeld2 => ?rest5016)
            case hSn5016 => (first | with_reducible exact R0.drew | with_reducible exact (R0.alloc _).drew | with_reducible exact hHeld.below hb4 | with_reducible exact hHeld.below hb5 | with_reducible exact hHeld.alloc _ | with_reducible exact K5.alloc _ | with_reducible exact hHeld.far4 (by simp only [Off]; repeat' (first | exact trivial | refine And.intro ?_ ?_ | omega)) (by omega) _ _ _ _ | with_reducible exact K5.far4 (by simp only [Off]; repeat' (first | exact trivial | refine And.intro ?_ ?_ | omega)) (by omega) _ _ _ _ | with_reducible exact (K5.alloc _).far4 (by simp only [Off]; repeat' (first | exact trivial | refine And.intro ?_ ?_ | omega)) (by omega) _ _ _ _)
            clear hK K hHeld
            have hHeld := hHeld2
            clear hHeld2
            try simp only [Act.put, List.setIfInBounds_toArray, List.set_cons_zero, List.set_cons_succ]
            refine wpAnyH_take (i := 11) (oi := _) (v := ?v5017) (List.getElem?_toArray.trans rfl) (by kernel_rfl) (by kernel_rfl) (by kernel_rfl) (fun _ _ _ h => h) (Or.inl ⟨by rfl, ?hy5017⟩) (by assumption) ?rest5017
            case hy5017 => (intro wq hSw; (try simp only [Two, Kn, Facts, CellsAt] at hSw); go_simp; try with_reducible rfl)
            try simp only [Act.put, List.setIfInBounds_toArray, List.set_cons_zero, List.set_cons_succ]
            refine wpAnyH_done (by kernel_rfl) ?_ _
            go_wp2_with fail
            go_meet
            case rel => exact ⟨_, rfl, rfl, (by omega), (by repeat (first | with_reducible exact Blk.new _ _ _ | with_reducible exact U5 | with_reducible refine Blk.put4 (x := .bool false) (y := .int .u64 0) (z := .int .u64 0) (q := .int .i64 0) ?_ _ _ _ _)), hHeld⟩
      case stp5008_9 =>
        go_simp
        go_wp2_with fail
        refine hK.out _ _ ?hSn5018 (fun hHeld2 => ?rest5018)
        case hSn5018 => (first | with_reducible exact R0.drew | with_reducible exact (R0.alloc _).drew | with_reducible exact hHeld.below hb4 | with_reducible exact hHeld.below hb5 | with_reducible exact hHeld.alloc _ | with_reducible exact K5.alloc _ | with_reducible exact hHeld.far4 (by simp only [Off]; repeat' (first | exact trivial | refine And.intro ?_ ?_ | omega)) (by omega) _ _ _ _ | with_reducible exact K5.far4 (by simp only [Off]; repeat' (first | exact trivial | refine And.intro ?_ ?_ | omega)) (by omega) _ _ _ _ | with_reducible exact (K5.alloc _).far4 (by simp only [Off]; repeat' (first | exact trivial | refine And.intro ?_ ?_ | omega)) (by omega) _ _ _ _)
        clear hK K hHeld
        have hHeld := hHeld2
        clear hHeld2
        try simp only [Act.put, List.setIfInBounds_toArray, List.set_cons_zero, List.set_cons_succ]
        refine wpAnyH_ready (rs := [5]) (by kernel_rfl) (by simp) ?rdy5019
        refine (AllReadyH.cons (List.getElem?_toArray.trans rfl) (fun K hK => ?stp5019_5) AllReadyH.nil)
        case stp5019_5 =>
          go_simp
          go_wp2_with fail
          (refine (BK.out _).mono ?_; rintro e w5 ⟨rfl, hb5⟩; have K5 := hHeld.below hb5; have s5 : w4.heap.size ≤ w5.heap.size := (by have := hb5.size; first | exact this | (simp at this; omega)); first | (have U5 := U4.below hb5; obtain ⟨a0, a1, a2, a3, a4, a5, a6, a7, a8⟩ := U5.four) | (have U5 : Blk w5 w4.heap.size #[.bool false, .int .u64 0, .int .u64 0, .int .i64 0] 28 := Blk.via hb5 (Blk.new w4 #[.bool false, .int .u64 0, .int .u64 0, .int .i64 0] 28) rfl; obtain ⟨p0, p1, p2, p3, p4, p5, p6, p7, p8⟩ := U5.four) | skip)
          go_wp2_with fail
          refine hK.out _ _ ?hSn5020 (fun hHeld2 => ?rest5020)
          case hSn5020 => (first | with_reducible exact R0.drew | with_reducible exact (R0.alloc _).drew | with_reducible exact hHeld.below hb4 | with_reducible exact hHeld.below hb5 | with_reducible exact hHeld.alloc _ | with_reducible exact K5.alloc _ | with_reducible exact hHeld.far4 (by simp only [Off]; repeat' (first | exact trivial | refine And.intro ?_ ?_ | omega)) (by omega) _ _ _ _ | with_reducible exact K5.far4 (by simp only [Off]; repeat' (first | exact trivial | refine And.intro ?_ ?_ | omega)) (by omega) _ _ _ _ | with_reducible exact (K5.alloc _).far4 (by simp only [Off]; repeat' (first | exact trivial | refine And.intro ?_ ?_ | omega)) (by omega) _ _ _ _)
          clear hK K hHeld
          have hHeld := hHeld2
          clear hHeld2
          try simp only [Act.put, List.setIfInBounds_toArray, List.set_cons_zero, List.set_cons_succ]
          refine wpAnyH_take (i := 6) (oi := _) (v := ?v5021) (List.getElem?_toArray.trans rfl) (by kernel_rfl) (by kernel_rfl) (by kernel_rfl) (fun _ _ _ h => h) (Or.inl ⟨by rfl, ?hy5021⟩) (by assumption) ?rest5021
          case hy5021 => (intro wq hSw; (try simp only [Two, Kn, Facts, CellsAt] at hSw); go_simp; try with_reducible rfl)
          try simp only [Act.put, List.setIfInBounds_toArray, List.set_cons_zero, List.set_cons_succ]
          refine wpAnyH_take (i := 7) (oi := _) (v := ?v5022) (List.getElem?_toArray.trans rfl) (by kernel_rfl) (by kernel_rfl) (by kernel_rfl) (fun _ _ _ h => h) (Or.inl ⟨by rfl, ?hy5022⟩) (by assumption) ?rest5022
          case hy5022 => (intro wq hSw; (try simp only [Two, Kn, Facts, CellsAt] at hSw); go_simp; try with_reducible rfl)
          try simp only [Act.put, List.setIfInBounds_toArray, List.set_cons_zero, List.set_cons_succ]
          refine wpAnyH_take (i := 8) (oi := _) (v := ?v5023) (List.getElem?_toArray.trans rfl) (by kernel_rfl) (by kernel_rfl) (by kernel_rfl) (fun _ _ _ h => h) (Or.inl ⟨by rfl, ?hy5023⟩) (by assumption) ?rest5023
          case hy5023 => (intro wq hSw; (try simp only [Two, Kn, Facts, CellsAt] at hSw); go_simp; try with_reducible rfl)
          try simp only [Act.put, List.setIfInBounds_toArray, List.set_cons_zero, List.set_cons_succ]
          refine wpAnyH_ready (rs := [10]) (by kernel_rfl) (by simp) ?rdy5024
          refine (AllReadyH.cons (List.getElem?_toArray.trans rfl) (fun K hK => ?stp5024_10) AllReadyH.nil)
          case stp5024_10 =>
            go_simp
            go_wp2_with fail
            refine hK.out _ _ ?hSn5025 (fun hHeld2 => ?rest5025)
            case hSn5025 => (first | with_reducible exact R0.drew | with_reducible exact (R0.alloc _).drew | with_reducible exact hHeld.below hb4 | with_reducible exact hHeld.below hb5 | with_reducible exact hHeld.alloc _ | with_reducible exact K5.alloc _ | with_reducible exact hHeld.far4 (by simp only [Off]; repeat' (first | exact trivial | refine And.intro ?_ ?_ | omega)) (by omega) _ _ _ _ | with_reducible exact K5.far4 (by simp only [Off]; repeat' (first | exact trivial | refine And.intro ?_ ?_ | omega)) (by omega) _ _ _ _ | with_reducible exact (K5.alloc _).far4 (by simp only [Off]; repeat' (first | exact trivial | refine And.intro ?_ ?_ | omega)) (by omega) _ _ _ _)
            clear hK K hHeld
            have hHeld := hHeld2
            clear hHeld2
            try simp only [Act.put, List.setIfInBounds_toArray, List.set_cons_zero, List.set_cons_succ]
            refine wpAnyH_take (i := 11) (oi := _) (v := ?v5026) (List.getElem?_toArray.trans rfl) (by kernel_rfl) (by kernel_rfl) (by kernel_rfl) (fun _ _ _ h => h) (Or.inl ⟨by rfl, ?hy5026⟩) (by assumption) ?rest5026
            case hy5026 => (intro wq hSw; (try simp only [Two, Kn, Facts, CellsAt] at hSw); go_simp; try with_reducible rfl)
            try simp only [Act.put, List.setIfInBounds_toArray, List.set_cons_zero, List.set_cons_succ]
            refine wpAnyH_done (by kernel_rfl) ?_ _
            go_wp2_with fail
            go_meet
            case rel => exact ⟨_, rfl, rfl, (by omega), (by repeat (first | with_reducible exact Blk.new _ _ _ | with_reducible exact U5 | with_reducible refine Blk.put4 (x := .bool false) (y := .int .u64 0) (z := .int .u64 0) (q := .int .i64 0) ?_ _ _ _ _)), hHeld⟩
    case stp5006_9 =>
      go_simp
      go_wp2_with fail
      refine hK.out _ _ ?hSn5027 (fun hHeld2 => ?rest5027)
      case hSn5027 => (first | with_reducible exact R0.drew | with_reducible exact (R0.alloc _).drew | with_reducible exact hHeld.below hb4 | with_reducible exact hHeld.below hb5 | with_reducible exact hHeld.alloc _ | with_reducible exact K5.alloc _ | with_reducible exact hHeld.far4 (by simp only [Off]; repeat' (first | exact trivial | refine And.intro ?_ ?_ | omega)) (by omega) _ _ _ _ | with_reducible exact K5.far4 (by simp only [Off]; repeat' (first | exact trivial | refine And.intro ?_ ?_ | omega)) (by omega) _ _ _ _ | with_reducible exact (K5.alloc _).far4 (by simp only [Off]; repeat' (first | exact trivial | refine And.intro ?_ ?_ | omega)) (by omega) _ _ _ _)
      clear hK K hHeld
      have hHeld := hHeld2
      clear hHeld2
      try simp only [Act.put, List.setIfInBounds_toArray, List.set_cons_zero, List.set_cons_succ]
      refine wpAnyH_ready (rs := [3]) (by kernel_rfl) (by simp) ?rdy5028
      refine (AllReadyH.cons (List.getElem?_toArray.trans rfl) (fun K hK => ?stp5028_3) AllReadyH.nil)
      case stp5028_3 =>
        go_simp
        go_wp2_with fail
        (refine (CW.out _).mono ?_; rintro e w4 ⟨rfl, hb4⟩; have s4 : w0.heap.size ≤ w4.heap.size := (by have := hb4.size; first | exact this | (simp at this; omega)); first | (have U4 : Blk w4 w0.heap.size #[.bool false, .int .u64 0, .int .u64 0, .int .i64 0] 28 := Blk.via hb4 (Blk.new w0 #[.bool false, .int .u64 0, .int .u64 0, .int .i64 0] 28) rfl; obtain ⟨u0, u1, u2, u3, u4, u5, u6, u7, u8⟩ := U4.four) | skip)
        go_wp2_with fail
        refine hK.out _ _ ?hSn5029 (fun hHeld2 => ?rest5029)
        case hSn5029 => (first | with_reducible exact R0.drew | with_reducible exact (R0.alloc _).drew | with_reducible exact hHeld.below hb4 | with_reducible exact hHeld.below hb5 | with_reducible exact hHeld.alloc _ | with_reducible exact K5.alloc _ | with_reducible exact hHeld.far4 (by simp only [Off]; repeat' (first | exact trivial | refine And.intro ?_ ?_ | omega)) (by omega) _ _ _ _ | with_reducible exact K5.far4 (by simp only [Off]; repeat' (first | exact trivial | refine And.intro ?_ ?_ | omega)) (by omega) _ _ _ _ | with_reducible exact (K5.alloc _).far4 (by simp only [Off]; repeat' (first | exact trivial | refine And.intro ?_ ?_ | omega)) (by omega) _ _ _ _)
        clear hK K hHeld
        have hHeld := hHeld2
        clear hHeld2
        try simp only [Act.put, List.setIfInBounds_toArray, List.set_cons_zero, List.set_cons_succ]
        refine wpAnyH_ready (rs := [5]) (by kernel_rfl) (by simp) ?rdy5030
        refine (AllReadyH.cons (List.getElem?_toArray.trans rfl) (fun K hK => ?stp5030_5) AllReadyH.nil)
        case stp5030_5 =>
          go_simp
          go_wp2_with fail
          (refine (BK.out _).mono ?_; rintro e w5 ⟨rfl, hb5⟩; have K5 := hHeld.below hb5; have s5 : w4.heap.size ≤ w5.heap.size := (by have := hb5.size; first | exact this | (simp at this; omega)); first | (have U5 := U4.below hb5; obtain ⟨a0, a1, a2, a3, a4, a5, a6, a7, a8⟩ := U5.four) | (have U5 : Blk w5 w4.heap.size #[.bool false, .int .u64 0, .int .u64 0, .int .i64 0] 28 := Blk.via hb5 (Blk.new w4 #[.bool false, .int .u64 0, .int .u64 0, .int .i64 0] 28) rfl; obtain ⟨p0, p1, p2, p3, p4, p5, p6, p7, p8⟩ := U5.four) | skip)
          go_wp2_with fail
          refine hK.out _ _ ?hSn5031 (fun hHeld2 => ?rest5031)
          case hSn5031 => (first | with_reducible exact R0.drew | with_reducible exact (R0.alloc _).drew | with_reducible exact hHeld.below hb4 | with_reducible exact hHeld.below hb5 | with_reducible exact hHeld.alloc _ | with_reducible exact K5.alloc _ | with_reducible exact hHeld.far4 (by simp only [Off]; repeat' (first | exact trivial | refine And.intro ?_ ?_ | omega)) (by omega) _ _ _ _ | with_reducible exact K5.far4 (by simp only [Off]; repeat' (first | exact trivial | refine And.intro ?_ ?_ | omega)) (by omega) _ _ _ _ | with_reducible exact (K5.alloc _).far4 (by simp only [Off]; repeat' (first | exact trivial | refine And.intro ?_ ?_ | omega)) (by omega) _ _ _ _)
          clear hK K hHeld
          have hHeld := hHeld2
          clear hHeld2
          try simp only [Act.put, List.setIfInBounds_toArray, List.set_cons_zero, List.set_cons_succ]
          refine wpAnyH_take (i := 6) (oi := _) (v := ?v5032) (List.getElem?_toArray.trans rfl) (by kernel_rfl) (by kernel_rfl) (by kernel_rfl) (fun _ _ _ h => h) (Or.inl ⟨by rfl, ?hy5032⟩) (by assumption) ?rest5032
          case hy5032 => (intro wq hSw; (try simp only [Two, Kn, Facts, CellsAt] at hSw); go_simp; try with_reducible rfl)
          try simp only [Act.put, List.setIfInBounds_toArray, List.set_cons_zero, List.set_cons_succ]
          refine wpAnyH_take (i := 7) (oi := _) (v := ?v5033) (List.getElem?_toArray.trans rfl) (by kernel_rfl) (by kernel_rfl) (by kernel_rfl) (fun _ _ _ h => h) (Or.inl ⟨by rfl, ?hy5033⟩) (by assumption) ?rest5033
          case hy5033 => (intro wq hSw; (try simp only [Two, Kn, Facts, CellsAt] at hSw); go_simp; try with_reducible rfl)
          try simp only [Act.put, List.setIfInBounds_toArray, List.set_cons_zero, List.set_cons_succ]
          refine wpAnyH_take (i := 8) (oi := _) (v := ?v5034) (List.getElem?_toArray.trans rfl) (by kernel_rfl) (by kernel_rfl) (by kernel_rfl) (fun _ _ _ h => h) (Or.inl ⟨by rfl, ?hy5034⟩) (by assumption) ?rest5034
          case hy5034 => (intro wq hSw; (try simp only [Two, Kn, Facts, CellsAt] at hSw); go_simp; try with_reducible rfl)
          try simp only [Act.put, List.setIfInBounds_toArray, List.set_cons_zero, List.set_cons_succ]
          refine wpAnyH_ready (rs := [10]) (by kernel_rfl) (by simp) ?rdy5035
          refine (AllReadyH.cons (List.getElem?_toArray.trans rfl) (fun K hK => ?stp5035_10) AllReadyH.nil)
          case stp5035_10 =>
            go_simp
            go_wp2_with fail
            refine hK.out _ _ ?hSn5036 (fun hHeld2 => ?rest5036)
            case hSn5036 => (first | with_reducible exact R0.drew | with_reducible exact (R0.alloc _).drew | with_reducible exact hHeld.below hb4 | with_reducible exact hHeld.below hb5 | with_reducible exact hHeld.alloc _ | with_reducible exact K5.alloc _ | with_reducible exact hHeld.far4 (by simp only [Off]; repeat' (first | exact trivial | refine And.intro ?_ ?_ | omega)) (by omega) _ _ _ _ | with_reducible exact K5.far4 (by simp only [Off]; repeat' (first | exact trivial | refine And.intro ?_ ?_ | omega)) (by omega) _ _ _ _ | with_reducible exact (K5.alloc _).far4 (by simp only [Off]; repeat' (first | exact trivial | refine And.intro ?_ ?_ | omega)) (by omega) _ _ _ _)
            clear hK K hHeld
            have hHeld := hHeld2
            clear hHeld2
            try simp only [Act.put, List.setIfInBounds_toArray, List.set_cons_zero, List.set_cons_succ]
            refine wpAnyH_take (i := 11) (oi := _) (v := ?v5037) (List.getElem?_toArray.trans rfl) (by kernel_rfl) (by kernel_rfl) (by kernel_rfl) (fun _ _ _ h => h) (Or.inl ⟨by rfl, ?hy5037⟩) (by assumption) ?rest5037
            case hy5037 => (intro wq hSw; (try simp only [Two, Kn, Facts, CellsAt] at hSw); go_simp; try with_reducible rfl)
            try simp only [Act.put, List.setIfInBounds_toArray, List.set_cons_zero, List.set_cons_succ]
            refine wpAnyH_done (by kernel_rfl) ?_ _
            go_wp2_with fail
            go_meet
            case rel => exact ⟨_, rfl, rfl, (by omega), (by repeat (first | with_reducible exact Blk.new _ _ _ | with_reducible exact U5 | with_reducible refine Blk.put4 (x := .bool false) (y := .int .u64 0) (z := .int .u64 0) (q := .int .i64 0) ?_ _ _ _ _)), hHeld⟩
  case rest =>
    obtain ⟨X, rfl, rfl, hX, N, R⟩ := hcut
    obtain ⟨x0, x1, x2, x3, x4, x5, x6, x7, x8⟩ := N.four
    obtain ⟨r0, r1, r2, r3, r4, r5, r6⟩ := R.2.1.1.three
    have B := R.bel
    have ne1 : ¬ X = w.heap.size + 1 + 1 := by omega
    clear R0 R N LT hs0 CW BK
    go_wp2
    refine bodyPost_ret (v := .tuple #[av rv rh rl, .int .i64 ec]) (by simp [results, Tryz.results116, go_sem, World.cell?_setCell_same', World.cell?_setCell_other, *]) rfl ⟨rfl, by repeat (first | with_reducible exact Below.refl _ _ | with_reducible refine Below.drew ?_ | with_reducible refine Below.alloc ?_ (by first | omega | (simp <;> omega)) _ | with_reducible refine Below.setCell ?_ (by first | omega | (simp <;> omega)) _ | with_reducible refine Below.trans ?_ (Below.mono B (by first | omega | (simp <;> omega))))⟩
end Go.Proofs.YtighdocmncbdnaaGreatDoor

namespace Go.Proofs.YtighdocmncbdnaaGreatDoor
open Go.ChangeShapes Go.WideShapes Go.ChangeAt Go.RowKit
set_option linter.unusedVariables false
set_option linter.unusedSimpArgs false

theorem pow_128 {j : Nat} (h : j < 128) : 2 ^ j + 2 ^ j ≤ 340282366920938463463374607431768211456 := by
  have := Nat.pow_le_pow_right (n := 2) (by decide) (show j + 1 ≤ 128 by omega)
  rw [show (2 : Nat) ^ 128 = 340282366920938463463374607431768211456 by decide, Nat.pow_succ] at this
  omega

/-- What Count keeps. -/
def CT (w : World) (h l : Int) (wr : World) : Prop :=
  Blk wr w.heap.size #[.int .u64 0, .int .u64 0] 24 ∧ Blk wr (w.heap.size + 1) #[.int .u64 h, .int .u64 l] 24 ∧ Below w.heap.size w wr

theorem CT.below {w W w1 : World} {h l : Int} (s : CT w h l W) (hb : Below W.heap.size W w1) : CT w h l w1 := ⟨s.1.below hb, s.2.1.below hb, s.2.2.trans (hb.mono s.2.2.size)⟩

theorem CT.put {w W : World} {h l : Int} (s : CT w h l W) (h' l' : Int) : CT w h' l' ((W.setCell ⟨w.heap.size + 1, 0, none⟩ (.int .u64 h')).setCell ⟨w.heap.size + 1, 1, none⟩ (.int .u64 l')) :=
  ⟨s.1.far2 (by omega) _ _, s.2.1.put2 _ _, (s.2.2.setCell (by show _ ≤ w.heap.size + 1; omega) _).setCell (by show _ ≤ w.heap.size + 1; omega) _⟩

/-- Two to so many bits, or none. -/
def CountIs (K : Nat) (rh rl : Int) (t : Bool) : Prop := (K < 128 ∧ t = true ∧ IsNum rh rl (2 ^ K)) ∨ (K = 128 ∧ t = false ∧ rh = 0 ∧ rl = 0)

theorem countIs_ex {K : Nat} (h : K ≤ 128) : ∃ rh rl t, CountIs K rh rl t := by
  by_cases c : K < 128
  · have p := pow_128 c
    have q := pow_pos2 K
    obtain ⟨rh, rl, hr⟩ := IsNum.ex (n := 2 ^ K) (by omega)
    exact ⟨rh, rl, true, Or.inl ⟨c, rfl, hr⟩⟩
  · exact ⟨0, 0, false, Or.inr ⟨by omega, rfl, rfl, rfl⟩⟩

theorem CountIs.mod {K : Nat} {rh rl : Int} {t : Bool} (h : CountIs K rh rl t) : IsNum rh rl (1 * 2 ^ K % 340282366920938463463374607431768211456) := by
  rcases h with ⟨h1, _, h2⟩ | ⟨rfl, _, rfl, rfl⟩
  · have p := pow_128 h1
    have q := pow_pos2 K
    exact h2.cast (by rw [Nat.one_mul, Nat.mod_eq_of_lt (by omega)])
  · exact ⟨by omega, by omega, by omega, by omega, by decide +kernel⟩

theorem CountIs.nought {K : Nat} {rh rl : Int} {t : Bool} (h : CountIs K rh rl t) : (t = true ∧ (¬ rh = 0 ∨ (rh = 0 ∧ ¬ rl = 0))) ∨ (t = false ∧ rh = 0 ∧ rl = 0) := by
  rcases h with ⟨h1, h2, h3⟩ | ⟨_, h2, h3, h4⟩
  · refine Or.inl ⟨h2, ?_⟩
    by_cases c : rh = 0
    · refine Or.inr ⟨c, fun d => ?_⟩
      have := h3.zero_iff.2 ⟨c, d⟩
      have q := pow_pos2 K
      omega
    · exact Or.inl c
  · exact Or.inr ⟨h2, h3, h4⟩

theorem blks_start (w : World) (v : Bool) (h l b : Int) : Kn w [(w.heap.size + 1, [.int .u64 0, .int .u64 0], 24), (w.heap.size, [.bool v, .int .u64 h, .int .u64 l, .int .i64 b], 28)] ((w.alloc (.cells #[.bool v, .int .u64 h, .int .u64 l, .int .i64 b] 28)).alloc (.cells #[.int .u64 0, .int .u64 0] 24)) :=
  ((Kn.nil w).push rfl).push (by simp)

set_option maxRecDepth 100000 in
set_option maxHeartbeats 800000 in
theorem blks_no {v : Bool} {h l b k : Int} {n : Nat} (hp : IsNum h l n) (hc : cutB v n b k = false) (w : World) :
    Calls Tryz.prog 140 #[pv v h l b, .int .i64 k] w fun e w' => e = .returned (.tuple #[nv 0 0, .bool false, .int .i64 1]) ∧ Below w.heap.size w w' := by
  have C1 : Hid (∀ w', Calls Tryz.prog 170 #[pv v h l b, .int .i64 k] w' fun e w1 => e = .returned (.bool false) ∧ Below w'.heap.size w' w1) := fun w' => hc ▸ cuts_c hp w'
  have K := blks_start w v h l b
  clear hp hc
  go_enter Tryz.func140, Tryz.ntmps140
  go_wp2_with fail
  refine (C1.out _).mono ?_
  rintro e w1 ⟨rfl, hb⟩
  replace K := K.below hb
  obtain ⟨r0, r1, r2, r3, r4⟩ := K.2.1.1.two
  have B := K.bel
  clear hb C1 K
  go_wp2
  refine bodyPost_ret (v := .tuple #[nv 0 0, .bool false, .int .i64 1]) (by simp [results, Tryz.results140, go_sem, World.cell?_setCell_same', World.cell?_setCell_other, *]) rfl ⟨rfl, by repeat (first | with_reducible exact Below.refl _ _ | with_reducible refine Below.drew ?_ | with_reducible refine Below.alloc ?_ (by first | omega | (simp <;> omega)) _ | with_reducible refine Below.setCell ?_ (by first | omega | (simp <;> omega)) _ | with_reducible refine Below.trans ?_ (Below.mono B (by first | omega | (simp <;> omega))))⟩

set_option maxRecDepth 100000 in
set_option maxHeartbeats 1600000 in
theorem blks_ok_t {v : Bool} {h l b k rh rl : Int} {n : Nat} (hp : IsNum h l n) (hc : cutB v n b k = true) (hr : IsNum rh rl (1 * 2 ^ (k - b).toNat % 340282366920938463463374607431768211456)) (nz : ¬ rh = 0 ∨ (rh = 0 ∧ ¬ rl = 0)) (w : World) :
    Calls Tryz.prog 140 #[pv v h l b, .int .i64 k] w fun e w' => e = .returned (.tuple #[nv rh rl, .bool true, .int .i64 0]) ∧ Below w.heap.size w w' := by
  have C1 : Hid (∀ w', Calls Tryz.prog 170 #[pv v h l b, .int .i64 k] w' fun e w1 => e = .returned (.bool true) ∧ Below w'.heap.size w' w1) := fun w' => hc ▸ cuts_c hp w'
  obtain ⟨_, b0, b1, b2, _⟩ := cutB_parts hc
  have hW2 := width_le v
  have one : IsNum 0 1 1 := ⟨by omega, by omega, by omega, by omega, rfl⟩
  have O1 : Hid (∀ w', Calls Tryz.prog 48 #[.int .u64 1] w' fun e w1 => e = .returned (nv 0 1) ∧ Below w'.heap.size w' w1) := fun w' => of_w 1 w'
  have S1 : Hid (∀ w', Calls Tryz.prog 131 #[nv 0 1, .int .i64 (k - b)] w' fun e w1 => e = .returned (nv rh rl) ∧ Below w'.heap.size w' w1) := fun w' => shl_is one (by omega) hr w'
  have hw1 : IntKind.i64.wrap (k - b) = k - b := by simp [IntKind.wrap, IntKind.bits, IntKind.signed]; omega
  have NZ : Hid (¬ rh = 0 ∨ (rh = 0 ∧ ¬ rl = 0)) := nz
  have K := blks_start w v h l b
  clear hp hc hr b0 b1 b2 hW2 one nz
  go_enter Tryz.func140, Tryz.ntmps140
  go_wp2_with fail
  refine (C1.out _).mono ?_
  rintro e w0 ⟨rfl, hb⟩
  have R0 := K.below hb
  have LT := R0.lts
  simp only [Lts] at LT
  have hs0 := R0.bel.size
  clear hb C1 K
  go_upto_region 3 with fail
  go_cut [7] (fun p wc => ∃ X : Nat, p = .pointer (some ⟨X, 0, none⟩) ∧ w.heap.size + 1 < X ∧ Blk wc X #[.int .u64 rh, .int .u64 rl] 24 ∧ Kn w [(w.heap.size + 1, [.int .u64 0, .int .u64 0], 24), (w.heap.size, [.bool v, .int .u64 h, .int .u64 l, .int .i64 b], 28)] wc)
  case first =>
    refine wp_region_held_drew (S := (Kn w [(w.heap.size + 1, [.int .u64 0, .int .u64 0], 24), (w.heap.size, [.bool v, .int .u64 h, .int .u64 l, .int .i64 b], 28)])) (by kernel_rfl) ?hS5038 (fun hHeld => ?rest5038)
    case hS5038 => (first | with_reducible exact R0.drew | with_reducible exact (R0.alloc _).drew | with_reducible exact hHeld.below hb4 | with_reducible exact hHeld.below hb5 | with_reducible exact hHeld.alloc _ | with_reducible exact K5.alloc _ | with_reducible exact hHeld.far2 (by simp only [Off]; repeat' (first | exact trivial | refine And.intro ?_ ?_ | omega)) (by omega) _ _ | with_reducible exact K5.far2 (by simp only [Off]; repeat' (first | exact trivial | refine And.intro ?_ ?_ | omega)) (by omega) _ _ | with_reducible exact (K5.alloc _).far2 (by simp only [Off]; repeat' (first | exact trivial | refine And.intro ?_ ?_ | omega)) (by omega) _ _)
    refine wpAnyH_take (i := 1) (oi := _) (v := ?v5039) (List.getElem?_toArray.trans rfl) (by kernel_rfl) (by kernel_rfl) (by kernel_rfl) (fun _ _ _ h => h) (Or.inl ⟨by rfl, ?hy5039⟩) (by assumption) ?rest5039
    case hy5039 => (intro wq hSw; (try simp only [Two, Kn, Facts, CellsAt] at hSw); go_simp; try with_reducible rfl)
    try simp only [Act.put, List.setIfInBounds_toArray, List.set_cons_zero, List.set_cons_succ]
    refine wpAnyH_take (i := 2) (oi := _) (v := ?v5040) (List.getElem?_toArray.trans rfl) (by kernel_rfl) (by kernel_rfl) (by kernel_rfl) (fun _ _ _ h => h) (Or.inl ⟨by rfl, ?hy5040⟩) (by assumption) ?rest5040
    case hy5040 => (intro wq hSw; (try simp only [Two, Kn, Facts, CellsAt] at hSw); go_simp; try with_reducible rfl)
    try simp only [Act.put, List.setIfInBounds_toArray, List.set_cons_zero, List.set_cons_succ]
    refine wpAnyH_take (i := 3) (oi := _) (v := ?v5041) (List.getElem?_toArray.trans rfl) (by kernel_rfl) (by kernel_rfl) (by kernel_rfl) (fun _ _ _ h => h) (Or.inl ⟨by rfl, ?hy5041⟩) (by assumption) ?rest5041
    case hy5041 => (intro wq hSw; (try simp only [Two, Kn, Facts, CellsAt] at hSw); go_simp; try with_reducible rfl)
    try simp only [Act.put, List.setIfInBounds_toArray, List.set_cons_zero, List.set_cons_succ]
    refine wpAnyH_take (i := 4) (oi := _) (v := ?v5042) (List.getElem?_toArray.trans rfl) (by kernel_rfl) (by kernel_rfl) (by kernel_rfl) (fun _ _ _ h => h) (Or.inl ⟨by rfl, ?hy5042⟩) (by assumption) ?rest5042
    case hy5042 => (intro wq hSw; (try simp only [Two, Kn, Facts, CellsAt] at hSw); go_simp; try with_reducible rfl)
    try simp only [Act.put, List.setIfInBounds_toArray, List.set_cons_zero, List.set_cons_succ]
    refine wpAnyH_ready (rs := [0, 6]) (by kernel_rfl) (by simp) ?rdy5043
    refine (AllReadyH.cons (List.getElem?_toArray.trans rfl) (fun K hK => ?stp5043_0) (AllReadyH.cons (List.getElem?_toArray.trans rfl) (fun K hK => ?stp5043_6) AllReadyH.nil))
    case stp5043_0 =>
      go_simp
      go_wp2_with fail
      (refine (O1.out _).mono ?_; rintro e w4 ⟨rfl, hb4⟩; have s4 : w0.heap.size ≤ w4.heap.size := (by have := hb4.size; first | exact this | (simp at this; omega)); first | (have U4 : Blk w4 w0.heap.size #[.int .u64 0, .int .u64 0] 24 := Blk.via hb4 (Blk.new w0 #[.int .u64 0, .int .u64 0] 24) rfl; obtain ⟨u0, u1, u2, u3, u4⟩ := U4.two) | skip)
      go_wp2_with fail
      refine hK.out _ _ ?hSn5044 (fun hHeld2 => ?rest5044)
      case hSn5044 => (first | with_reducible exact R0.drew | with_reducible exact (R0.alloc _).drew | with_reducible exact hHeld.below hb4 | with_reducible exact hHeld.below hb5 | with_reducible exact hHeld.alloc _ | with_reducible exact K5.alloc _ | with_reducible exact hHeld.far2 (by simp only [Off]; repeat' (first | exact trivial | refine And.intro ?_ ?_ | omega)) (by omega) _ _ | with_reducible exact K5.far2 (by simp only [Off]; repeat' (first | exact trivial | refine And.intro ?_ ?_ | omega)) (by omega) _ _ | with_reducible exact (K5.alloc _).far2 (by simp only [Off]; repeat' (first | exact trivial | refine And.intro ?_ ?_ | omega)) (by omega) _ _)
      clear hK K hHeld
      have hHeld := hHeld2
      clear hHeld2
      try simp only [Act.put, List.setIfInBounds_toArray, List.set_cons_zero, List.set_cons_succ]
      refine wpAnyH_ready (rs := [5, 6]) (by kernel_rfl) (by simp) ?rdy5045
      refine (AllReadyH.cons (List.getElem?_toArray.trans rfl) (fun K hK => ?stp5045_5) (AllReadyH.cons (List.getElem?_toArray.trans rfl) (fun K hK => ?stp5045_6) AllReadyH.nil))
      case stp5045_5 =>
        go_simp
        go_wp2_with fail
        (refine (S1.out _).mono ?_; rintro e w5 ⟨rfl, hb5⟩; have K5 := hHeld.below hb5; have s5 : w4.heap.size ≤ w5.heap.size := (by have := hb5.size; first | exact this | (simp at this; omega)); first | (have U5 := U4.below hb5; obtain ⟨a0, a1, a2, a3, a4⟩ := U5.two) | (have U5 : Blk w5 w4.heap.size #[.int .u64 0, .int .u64 0] 24 := Blk.via hb5 (Blk.new w4 #[.int .u64 0, .int .u64 0] 24) rfl; obtain ⟨p0, p1, p2, p3, p4⟩ := U5.two) | skip)
        go_wp2_with fail
        refine hK.out _ _ ?hSn5046 (fun hHeld2 => ?rest5046)
        case hSn5046 => (first | with_reducible exact R0.drew | with_reducible exact (R0.alloc _).drew | with_reducible exact hHeld.below hb4 | with_reducible exact hHeld.below hb5 | with_reducible exact hHeld.alloc _ | with_reducible exact K5.alloc _ | with_reducible exact hHeld.far2 (by simp only [Off]; repeat' (first | exact trivial | refine And.intro ?_ ?_ | omega)) (by omega) _ _ | with_reducible exact K5.far2 (by simp only [Off]; repeat' (first | exact trivial | refine And.intro ?_ ?_ | omega)) (by omega) _ _ | with_reducible exact (K5.alloc _).far2 (by simp only [Off]; repeat' (first | exact trivial | refine And.intro ?_ ?_ | omega)) (by omega) _ _)
        clear hK K hHeld
        have hHeld := hHeld2
        clear hHeld2
        try simp only [Act.put, List.setIfInBounds_toArray, List.set_cons_zero, List.set_cons_succ]
        refine wpAnyH_ready (rs := [6]) (by kernel_rfl) (by simp) ?rdy5047
        refine (AllReadyH.cons (List.getElem?_toArray.trans rfl) (fun K hK => ?stp5047_6) AllReadyH.nil)
        case stp5047_6 =>
          go_simp
          go_wp2_with fail
          refine hK.out _ _ ?hSn5048 (fun hHeld2 => ?rest5048)
          case hSn5048 => (first | with_reducible exact R0.drew | with_reducible exact (R0.alloc _).drew | with_reducible exact hHeld.below hb4 | with_reducible exact hHeld.below hb5 | with_reducible exact hHeld.alloc _ | with_reducible exact K5.alloc _ | with_reducible exact hHeld.far2 (by simp only [Off]; repeat' (first | exact trivial | refine And.intro ?_ ?_ | omega)) (by omega) _ _ | with_reducible exact K5.far2 (by simp only [Off]; repeat' (first | exact trivial | refine And.intro ?_ ?_ | omega)) (by omega) _ _ | with_reducible exact (K5.alloc _).far2 (by simp only [Off]; repeat' (first | exact trivial | refine And.intro ?_ ?_ | omega)) (by omega) _ _)
          clear hK K hHeld
          have hHeld := hHeld2
          clear hHeld2
          try simp only [Act.put, List.setIfInBounds_toArray, List.set_cons_zero, List.set_cons_succ]
          refine wpAnyH_ready (rs := [7]) (by kernel_rfl) (by simp) ?rdy5049
          refine (AllReadyH.cons (List.getElem?_toArray.trans rfl) (fun K hK => ?stp5049_7) AllReadyH.nil)
          case stp5049_7 =>
            go_simp
            go_wp2_with fail
            refine hK.out _ _ ?hSn5050 (fun hHeld2 => ?rest5050)
            case hSn5050 => (first | with_reducible exact R0.drew | with_reducible exact (R0.alloc _).drew | with_reducible exact hHeld.below hb4 | with_reducible exact hHeld.below hb5 | with_reducible exact hHeld.alloc _ | with_reducible exact K5.alloc _ | with_reducible exact hHeld.far2 (by simp only [Off]; repeat' (first | exact trivial | refine And.intro ?_ ?_ | omega)) (by omega) _ _ | with_reducible exact K5.far2 (by simp only [Off]; repeat' (first | exact trivial | refine And.intro ?_ ?_ | omega)) (by omega) _ _ | with_reducible exact (K5.alloc _).far2 (by simp only [Off]; repeat' (first | exact trivial | refine And.intro ?_ ?_ | omega)) (by omega) _ _)
            clear hK K hHeld
            have hHeld := hHeld2
            clear hHeld2
            try simp only [Act.put, List.setIfInBounds_toArray, List.set_cons_zero, List.set_cons_succ]
            refine wpAnyH_done (by kernel_rfl) ?_ _
            go_wp2_with fail
            go_meet
            case rel => exact ⟨_, rfl, (by omega), (by repeat (first | with_reducible exact Blk.new _ _ _ | with_reducible exact U5 | with_reducible refine Blk.put2 (x := .int .u64 0) (y := .int .u64 0) ?_ _ _)), hHeld⟩
      case stp5045_6 =>
        go_simp
        go_wp2_with fail
        refine hK.out _ _ ?hSn5051 (fun hHeld2 => ?rest5051)
        case hSn5051 => (first | with_reducible exact R0.drew | with_reducible exact (R0.alloc _).drew | with_reducible exact hHeld.below hb4 | with_reducible exact hHeld.below hb5 | with_reducible exact hHeld.alloc _ | with_reducible exact K5.alloc _ | with_reducible exact hHeld.far2 (by simp only [Off]; repeat' (first | exact trivial | refine And.intro ?_ ?_ | omega)) (by omega) _ _ | with_reducible exact K5.far2 (by simp only [Off]; repeat' (first | exact trivial | refine And.intro ?_ ?_ | omega)) (by omega) _ _ | with_reducible exact (K5.alloc _).far2 (by simp only [Off]; repeat' (first | exact trivial | refine And.intro ?_ ?_ | omega)) (by omega) _ _)
        clear hK K hHeld
        have hHeld := hHeld2
        clear hHeld2
        try simp only [Act.put, List.setIfInBounds_toArray, List.set_cons_zero, List.set_cons_succ]
        refine wpAnyH_ready (rs := [5]) (by kernel_rfl) (by simp) ?rdy5052
        refine (AllReadyH.cons (List.getElem?_toArray.trans rfl) (fun K hK => ?stp5052_5) AllReadyH.nil)
        case stp5052_5 =>
          go_simp
          go_wp2_with fail
          (refine (S1.out _).mono ?_; rintro e w5 ⟨rfl, hb5⟩; have K5 := hHeld.below hb5; have s5 : w4.heap.size ≤ w5.heap.size := (by have := hb5.size; first | exact this | (simp at this; omega)); first | (have U5 := U4.below hb5; obtain ⟨a0, a1, a2, a3, a4⟩ := U5.two) | (have U5 : Blk w5 w4.heap.size #[.int .u64 0, .int .u64 0] 24 := Blk.via hb5 (Blk.new w4 #[.int .u64 0, .int .u64 0] 24) rfl; obtain ⟨p0, p1, p2, p3, p4⟩ := U5.two) | skip)
          go_wp2_with fail
          refine hK.out _ _ ?hSn5053 (fun hHeld2 => ?rest5053)
          case hSn5053 => (first | with_reducible exact R0.drew | with_reducible exact (R0.alloc _).drew | with_reducible exact hHeld.below hb4 | with_reducible exact hHeld.below hb5 | with_reducible exact hHeld.alloc _ | with_reducible exact K5.alloc _ | with_reducible exact hHeld.far2 (by simp only [Off]; repeat' (first | exact trivial | refine And.intro ?_ ?_ | omega)) (by omega) _ _ | with_reducible exact K5.far2 (by simp only [Off]; repeat' (first | exact trivial | refine And.intro ?_ ?_ | omega)) (by omega) _ _ | with_reducible exact (K5.alloc _).far2 (by simp only [Off]; repeat' (first | exact trivial | refine And.intro ?_ ?_ | omega)) (by omega) _ _)
          clear hK K hHeld
          have hHeld := hHeld2
          clear hHeld2
          try simp only [Act.put, List.setIfInBounds_toArray, List.set_cons_zero, List.set_cons_succ]
          refine wpAnyH_ready (rs := [7]) (by kernel_rfl) (by simp) ?rdy5054
          refine (AllReadyH.cons (List.getElem?_toArray.trans rfl) (fun K hK => ?stp5054_7) AllReadyH.nil)
          case stp5054_7 =>
            go_simp
            go_wp2_with fail
            refine hK.out _ _ ?hSn5055 (fun hHeld2 => ?rest5055)
            case hSn5055 => (first | with_reducible exact R0.drew | with_reducible exact (R0.alloc _).drew | with_reducible exact hHeld.below hb4 | with_reducible exact hHeld.below hb5 | with_reducible exact hHeld.alloc _ | with_reducible exact K5.alloc _ | with_reducible exact hHeld.far2 (by simp only [Off]; repeat' (first | exact trivial | refine And.intro ?_ ?_ | omega)) (by omega) _ _ | with_reducible exact K5.far2 (by simp only [Off]; repeat' (first | exact trivial | refine And.intro ?_ ?_ | omega)) (by omega) _ _ | with_reducible exact (K5.alloc _).far2 (by simp only [Off]; repeat' (first | exact trivial | refine And.intro ?_ ?_ | omega)) (by omega) _ _)
            clear hK K hHeld
            have hHeld := hHeld2
            clear hHeld2
            try simp only [Act.put, List.setIfInBounds_toArray, List.set_cons_zero, List.set_cons_succ]
            refine wpAnyH_done (by kernel_rfl) ?_ _
            go_wp2_with fail
            go_meet
            case rel => exact ⟨_, rfl, (by omega), (by repeat (first | with_reducible exact Blk.new _ _ _ | with_reducible exact U5 | with_reducible refine Blk.put2 (x := .int .u64 0) (y := .int .u64 0) ?_ _ _)), hHeld⟩
    case stp5043_6 =>
      go_simp
      go_wp2_with fail
      refine hK.out _ _ ?hSn5056 (fun hHeld2 => ?rest5056)
      case hSn5056 => (first | with_reducible exact R0.drew | with_reducible exact (R0.alloc _).drew | with_reducible exact hHeld.below hb4 | with_reducible exact hHeld.below hb5 | with_reducible exact hHeld.alloc _ | with_reducible exact K5.alloc _ | with_reducible exact hHeld.far2 (by simp only [Off]; repeat' (first | exact trivial | refine And.intro ?_ ?_ | omega)) (by omega) _ _ | with_reducible exact K5.far2 (by simp only [Off]; repeat' (first | exact trivial | refine And.intro ?_ ?_ | omega)) (by omega) _ _ | with_reducible exact (K5.alloc _).far2 (by simp only [Off]; repeat' (first | exact trivial | refine And.intro ?_ ?_ | omega)) (by omega) _ _)
      clear hK K hHeld
      have hHeld := hHeld2
      clear hHeld2
      try simp only [Act.put, List.setIfInBounds_toArray, List.set_cons_zero, List.set_cons_succ]
      refine wpAnyH_ready (rs := [0]) (by kernel_rfl) (by simp) ?rdy5057
      refine (AllReadyH.cons (List.getElem?_toArray.trans rfl) (fun K hK => ?stp5057_0) AllReadyH.nil)
      case stp5057_0 =>
        go_simp
        go_wp2_with fail
        (refine (O1.out _).mono ?_; rintro e w4 ⟨rfl, hb4⟩; have s4 : w0.heap.size ≤ w4.heap.size := (by have := hb4.size; first | exact this | (simp at this; omega)); first | (have U4 : Blk w4 w0.heap.size #[.int .u64 0, .int .u64 0] 24 := Blk.via hb4 (Blk.new w0 #[.int .u64 0, .int .u64 0] 24) rfl; obtain ⟨u0, u1, u2, u3, u4⟩ := U4.two) | skip)
        go_wp2_with fail
        refine hK.out _ _ ?hSn5058 (fun hHeld2 => ?rest5058)
        case hSn5058 => (first | with_reducible exact R0.drew | with_reducible exact (R0.alloc _).drew | with_reducible exact hHeld.below hb4 | with_reducible exact hHeld.below hb5 | with_reducible exact hHeld.alloc _ | with_reducible exact K5.alloc _ | with_reducible exact hHeld.far2 (by simp only [Off]; repeat' (first | exact trivial | refine And.intro ?_ ?_ | omega)) (by omega) _ _ | with_reducible exact K5.far2 (by simp only [Off]; repeat' (first | exact trivial | refine And.intro ?_ ?_ | omega)) (by omega) _ _ | with_reducible exact (K5.alloc _).far2 (by simp only [Off]; repeat' (first | exact trivial | refine And.intro ?_ ?_ | omega)) (by omega) _ _)
        clear hK K hHeld
        have hHeld := hHeld2
        clear hHeld2
        try simp only [Act.put, List.setIfInBounds_toArray, List.set_cons_zero, List.set_cons_succ]
        refine wpAnyH_ready (rs := [5]) (by kernel_rfl) (by simp) ?rdy5059
        refine (AllReadyH.cons (List.getElem?_toArray.trans rfl) (fun K hK => ?stp5059_5) AllReadyH.nil)
        case stp5059_5 =>
          go_simp
          go_wp2_with fail
          (refine (S1.out _).mono ?_; rintro e w5 ⟨rfl, hb5⟩; have K5 := hHeld.below hb5; have s5 : w4.heap.size ≤ w5.heap.size := (by have := hb5.size; first | exact this | (simp at this; omega)); first | (have U5 := U4.below hb5; obtain ⟨a0, a1, a2, a3, a4⟩ := U5.two) | (have U5 : Blk w5 w4.heap.size #[.int .u64 0, .int .u64 0] 24 := Blk.via hb5 (Blk.new w4 #[.int .u64 0, .int .u64 0] 24) rfl; obtain ⟨p0, p1, p2, p3, p4⟩ := U5.two) | skip)
          go_wp2_with fail
          refine hK.out _ _ ?hSn5060 (fun hHeld2 => ?rest5060)
          case hSn5060 => (first | with_reducible exact R0.drew | with_reducible exact (R0.alloc _).drew | with_reducible exact hHeld.below hb4 | with_reducible exact hHeld.below hb5 | with_reducible exact hHeld.alloc _ | with_reducible exact K5.alloc _ | with_reducible exact hHeld.far2 (by simp only [Off]; repeat' (first | exact trivial | refine And.intro ?_ ?_ | omega)) (by omega) _ _ | with_reducible exact K5.far2 (by simp only [Off]; repeat' (first | exact trivial | refine And.intro ?_ ?_ | omega)) (by omega) _ _ | with_reducible exact (K5.alloc _).far2 (by simp only [Off]; repeat' (first | exact trivial | refine And.intro ?_ ?_ | omega)) (by omega) _ _)
          clear hK K hHeld
          have hHeld := hHeld2
          clear hHeld2
          try simp only [Act.put, List.setIfInBounds_toArray, List.set_cons_zero, List.set_cons_succ]
          refine wpAnyH_ready (rs := [7]) (by kernel_rfl) (by simp) ?rdy5061
          refine (AllReadyH.cons (List.getElem?_toArray.trans rfl) (fun K hK => ?stp5061_7) AllReadyH.nil)
          case stp5061_7 =>
            go_simp
            go_wp2_with fail
            refine hK.out _ _ ?hSn5062 (fun hHeld2 => ?rest5062)
            case hSn5062 => (first | with_reducible exact R0.drew | with_reducible exact (R0.alloc _).drew | with_reducible exact hHeld.below hb4 | with_reducible exact hHeld.below hb5 | with_reducible exact hHeld.alloc _ | with_reducible exact K5.alloc _ | with_reducible exact hHeld.far2 (by simp only [Off]; repeat' (first | exact trivial | refine And.intro ?_ ?_ | omega)) (by omega) _ _ | with_reducible exact K5.far2 (by simp only [Off]; repeat' (first | exact trivial | refine And.intro ?_ ?_ | omega)) (by omega) _ _ | with_reducible exact (K5.alloc _).far2 (by simp only [Off]; repeat' (first | exact trivial | refine And.intro ?_ ?_ | omega)) (by omega) _ _)
            clear hK K hHeld
            have hHeld := hHeld2
            clear hHeld2
            try simp only [Act.put, List.setIfInBounds_toArray, List.set_cons_zero, List.set_cons_succ]
            refine wpAnyH_done (by kernel_rfl) ?_ _
            go_wp2_with fail
            go_meet
            case rel => exact ⟨_, rfl, (by omega), (by repeat (first | with_reducible exact Blk.new _ _ _ | with_reducible exact U5 | with_reducible refine Blk.put2 (x := .int .u64 0) (y := .int .u64 0) ?_ _ _)), hHeld⟩
  case rest =>
    obtain ⟨X, rfl, hX, N, R⟩ := hcut
    clear R0 LT hs0 O1 S1
    have R0 : Kn w [(X, [.int .u64 rh, .int .u64 rl], 24)] wc := Kn.of ⟨N, trivial⟩ R.bel
    obtain ⟨r0, r1, r2, r3, r4⟩ := R.2.1.1.two
    have B := R.bel
    have of1 : Off (w.heap.size + 1) [(X, [.int .u64 rh, .int .u64 rl], 24)] := by simp only [Off]; exact ⟨by omega, trivial⟩
    have le1 : w.heap.size ≤ w.heap.size + 1 := by omega
    clear R N
    go_upto_region 4 with fail
    refine wp_region_held_drew (S := (Kn w [(X, [.int .u64 rh, .int .u64 rl], 24)])) (by kernel_rfl) ?hS200 (fun hHeld => ?rest200)
    case hS200 => (first | with_reducible exact R0.drew | with_reducible exact hHeld.far2 of1 le1 _ _ | with_reducible exact (R0.far2 of1 le1 _ _).drew)
    refine wpAnyH_take (i := 0) (oi := _) (v := ?v201) (List.getElem?_toArray.trans rfl) (by kernel_rfl) (by kernel_rfl) (by kernel_rfl) (fun _ _ _ h => h) (Or.inl ⟨by rfl, ?hy201⟩) (by assumption) ?rest201
    case hy201 => (intro wq hSw; (try simp only [Two, Kn, Facts, CellsAt] at hSw); go_simp; try with_reducible rfl)
    try simp only [Act.put, List.setIfInBounds_toArray, List.set_cons_zero, List.set_cons_succ]
    refine wpAnyH_take (i := 1) (oi := _) (v := ?v202) (List.getElem?_toArray.trans rfl) (by kernel_rfl) (by kernel_rfl) (by kernel_rfl) (fun _ _ _ h => h) (Or.inl ⟨by rfl, ?hy202⟩) (by assumption) ?rest202
    case hy202 => (intro wq hSw; (try simp only [Two, Kn, Facts, CellsAt] at hSw); go_simp; try with_reducible rfl)
    try simp only [Act.put, List.setIfInBounds_toArray, List.set_cons_zero, List.set_cons_succ]
    refine wpAnyH_take (i := 2) (oi := _) (v := ?v203) (List.getElem?_toArray.trans rfl) (by kernel_rfl) (by kernel_rfl) (by kernel_rfl) (fun _ _ _ h => h) (Or.inl ⟨by rfl, ?hy203⟩) (by assumption) ?rest203
    case hy203 => (intro wq hSw; (try simp only [Two, Kn, Facts, CellsAt] at hSw); go_simp; try with_reducible rfl)
    try simp only [Act.put, List.setIfInBounds_toArray, List.set_cons_zero, List.set_cons_succ]
    refine wpAnyH_take (i := 3) (oi := _) (v := (Value.bool true)) (List.getElem?_toArray.trans rfl) (by kernel_rfl) (by kernel_rfl) (by kernel_rfl) (fun _ _ _ h => h) (Or.inl ⟨by rfl, ?hy204⟩) (by assumption) ?rest204
    case hy204 => (intro wq hSw; (try simp only [Two, Kn, Facts, CellsAt] at hSw); go_simp; (all_goals (have nz := NZ.out; intro q r; omega)))
    try simp only [Act.put, List.setIfInBounds_toArray, List.set_cons_zero, List.set_cons_succ]
    refine wpAnyH_ready (rs := [4]) (by kernel_rfl) (by simp) ?rdy205
    refine AllReadyH.cons (List.getElem?_toArray.trans rfl) (fun K hK => ?stp205) AllReadyH.nil
    go_simp
    go_wp2_with fail
    skip
    go_wp2_with fail
    refine hK.out _ _ ?hSn205 (fun hHeld2 => ?rest205)
    case hSn205 => (first | with_reducible exact R0.drew | with_reducible exact hHeld.far2 of1 le1 _ _ | with_reducible exact (R0.far2 of1 le1 _ _).drew)
    clear hK K hHeld
    have hHeld := hHeld2
    clear hHeld2
    try simp only [Act.put, List.setIfInBounds_toArray, List.set_cons_zero, List.set_cons_succ]
    refine wpAnyH_take (i := 5) (oi := _) (v := ?v206) (List.getElem?_toArray.trans rfl) (by kernel_rfl) (by kernel_rfl) (by kernel_rfl) (fun _ _ _ h => h) (Or.inl ⟨by rfl, ?hy206⟩) (by assumption) ?rest206
    case hy206 => (intro wq hSw; (try simp only [Two, Kn, Facts, CellsAt] at hSw); go_simp; try with_reducible rfl)
    try simp only [Act.put, List.setIfInBounds_toArray, List.set_cons_zero, List.set_cons_succ]
    refine wpAnyH_take (i := 6) (oi := _) (v := ?v207) (List.getElem?_toArray.trans rfl) (by kernel_rfl) (by kernel_rfl) (by kernel_rfl) (fun _ _ _ h => h) (Or.inl ⟨by rfl, ?hy207⟩) (by assumption) ?rest207
    case hy207 => (intro wq hSw; (try simp only [Two, Kn, Facts, CellsAt] at hSw); go_simp; try with_reducible rfl)
    try simp only [Act.put, List.setIfInBounds_toArray, List.set_cons_zero, List.set_cons_succ]
    refine wpAnyH_done (by kernel_rfl) ?fin200 _
    clear hHeld R0 of1 NZ
    go_wp2
    refine bodyPost_ret (v := .tuple #[nv rh rl, .bool true, .int .i64 0]) (by simp [results, Tryz.results140, go_sem, World.cell?_setCell_same', World.cell?_setCell_other, *]) rfl ⟨rfl, by repeat (first | with_reducible exact Below.refl _ _ | with_reducible refine Below.drew ?_ | with_reducible refine Below.alloc ?_ (by first | omega | (simp <;> omega)) _ | with_reducible refine Below.setCell ?_ (by first | omega | (simp <;> omega)) _ | with_reducible refine Below.trans ?_ (Below.mono B (by first | omega | (simp <;> omega))))⟩

set_option maxRecDepth 100000 in
set_option maxHeartbeats 1600000 in
theorem blks_ok_f {v : Bool} {h l b k rh rl : Int} {n : Nat} (hp : IsNum h l n) (hc : cutB v n b k = true) (hr : IsNum rh rl (1 * 2 ^ (k - b).toNat % 340282366920938463463374607431768211456)) (nz : rh = 0 ∧ rl = 0) (w : World) :
    Calls Tryz.prog 140 #[pv v h l b, .int .i64 k] w fun e w' => e = .returned (.tuple #[nv rh rl, .bool false, .int .i64 0]) ∧ Below w.heap.size w w' := by
  have C1 : Hid (∀ w', Calls Tryz.prog 170 #[pv v h l b, .int .i64 k] w' fun e w1 => e = .returned (.bool true) ∧ Below w'.heap.size w' w1) := fun w' => hc ▸ cuts_c hp w'
  obtain ⟨_, b0, b1, b2, _⟩ := cutB_parts hc
  have hW2 := width_le v
  have one : IsNum 0 1 1 := ⟨by omega, by omega, by omega, by omega, rfl⟩
  have O1 : Hid (∀ w', Calls Tryz.prog 48 #[.int .u64 1] w' fun e w1 => e = .returned (nv 0 1) ∧ Below w'.heap.size w' w1) := fun w' => of_w 1 w'
  have S1 : Hid (∀ w', Calls Tryz.prog 131 #[nv 0 1, .int .i64 (k - b)] w' fun e w1 => e = .returned (nv rh rl) ∧ Below w'.heap.size w' w1) := fun w' => shl_is one (by omega) hr w'
  have hw1 : IntKind.i64.wrap (k - b) = k - b := by simp [IntKind.wrap, IntKind.bits, IntKind.signed]; omega
  have NZ : Hid (rh = 0 ∧ rl = 0) := nz
  have K := blks_start w v h l b
  clear hp hc hr b0 b1 b2 hW2 one nz
  go_enter Tryz.func140, Tryz.ntmps140
  go_wp2_with fail
  refine (C1.out _).mono ?_
  rintro e w0 ⟨rfl, hb⟩
  have R0 := K.below hb
  have LT := R0.lts
  simp only [Lts] at LT
  have hs0 := R0.bel.size
  clear hb C1 K
  go_upto_region 3 with fail
  go_cut [7] (fun p wc => ∃ X : Nat, p = .pointer (some ⟨X, 0, none⟩) ∧ w.heap.size + 1 < X ∧ Blk wc X #[.int .u64 rh, .int .u64 rl] 24 ∧ Kn w [(w.heap.size + 1, [.int .u64 0, .int .u64 0], 24), (w.heap.size, [.bool v, .int .u64 h, .int .u64 l, .int .i64 b], 28)] wc)
  case first =>
    refine wp_region_held_drew (S := (Kn w [(w.heap.size + 1, [.int .u64 0, .int .u64 0], 24), (w.heap.size, [.bool v, .int .u64 h, .int .u64 l, .int .i64 b], 28)])) (by kernel_rfl) ?hS5063 (fun hHeld => ?rest5063)
    case hS5063 => (first | with_reducible exact R0.drew | with_reducible exact (R0.alloc _).drew | with_reducible exact hHeld.below hb4 | with_reducible exact hHeld.below hb5 | with_reducible exact hHeld.alloc _ | with_reducible exact K5.alloc _ | with_reducible exact hHeld.far2 (by simp only [Off]; repeat' (first | exact trivial | refine And.intro ?_ ?_ | omega)) (by omega) _ _ | with_reducible exact K5.far2 (by simp only [Off]; repeat' (first | exact trivial | refine And.intro ?_ ?_ | omega)) (by omega) _ _ | with_reducible exact (K5.alloc _).far2 (by simp only [Off]; repeat' (first | exact trivial | refine And.intro ?_ ?_ | omega)) (by omega) _ _)
    refine wpAnyH_take (i := 1) (oi := _) (v := ?v5064) (List.getElem?_toArray.trans rfl) (by kernel_rfl) (by kernel_rfl) (by kernel_rfl) (fun _ _ _ h => h) (Or.inl ⟨by rfl, ?hy5064⟩) (by assumption) ?rest5064
    case hy5064 => (intro wq hSw; (try simp only [Two, Kn, Facts, CellsAt] at hSw); go_simp; try with_reducible rfl)
    try simp only [Act.put, List.setIfInBounds_toArray, List.set_cons_zero, List.set_cons_succ]
    refine wpAnyH_take (i := 2) (oi := _) (v := ?v5065) (List.getElem?_toArray.trans rfl) (by kernel_rfl) (by kernel_rfl) (by kernel_rfl) (fun _ _ _ h => h) (Or.inl ⟨by rfl, ?hy5065⟩) (by assumption) ?rest5065
    case hy5065 => (intro wq hSw; (try simp only [Two, Kn, Facts, CellsAt] at hSw); go_simp; try with_reducible rfl)
    try simp only [Act.put, List.setIfInBounds_toArray, List.set_cons_zero, List.set_cons_succ]
    refine wpAnyH_take (i := 3) (oi := _) (v := ?v5066) (List.getElem?_toArray.trans rfl) (by kernel_rfl) (by kernel_rfl) (by kernel_rfl) (fun _ _ _ h => h) (Or.inl ⟨by rfl, ?hy5066⟩) (by assumption) ?rest5066
    case hy5066 => (intro wq hSw; (try simp only [Two, Kn, Facts, CellsAt] at hSw); go_simp; try with_reducible rfl)
    try simp only [Act.put, List.setIfInBounds_toArray, List.set_cons_zero, List.set_cons_succ]
    refine wpAnyH_take (i := 4) (oi := _) (v := ?v5067) (List.getElem?_toArray.trans rfl) (by kernel_rfl) (by kernel_rfl) (by kernel_rfl) (fun _ _ _ h => h) (Or.inl ⟨by rfl, ?hy5067⟩) (by assumption) ?rest5067
    case hy5067 => (intro wq hSw; (try simp only [Two, Kn, Facts, CellsAt] at hSw); go_simp; try with_reducible rfl)
    try simp only [Act.put, List.setIfInBounds_toArray, List.set_cons_zero, List.set_cons_succ]
    refine wpAnyH_ready (rs := [0, 6]) (by kernel_rfl) (by simp) ?rdy5068
    refine (AllReadyH.cons (List.getElem?_toArray.trans rfl) (fun K hK => ?stp5068_0) (AllReadyH.cons (List.getElem?_toArray.trans rfl) (fun K hK => ?stp5068_6) AllReadyH.nil))
    case stp5068_0 =>
      go_simp
      go_wp2_with fail
      (refine (O1.out _).mono ?_; rintro e w4 ⟨rfl, hb4⟩; have s4 : w0.heap.size ≤ w4.heap.size := (by have := hb4.size; first | exact this | (simp at this; omega)); first | (have U4 : Blk w4 w0.heap.size #[.int .u64 0, .int .u64 0] 24 := Blk.via hb4 (Blk.new w0 #[.int .u64 0, .int .u64 0] 24) rfl; obtain ⟨u0, u1, u2, u3, u4⟩ := U4.two) | skip)
      go_wp2_with fail
      refine hK.out _ _ ?hSn5069 (fun hHeld2 => ?rest5069)
      case hSn5069 => (first | with_reducible exact R0.drew | with_reducible exact (R0.alloc _).drew | with_reducible exact hHeld.below hb4 | with_reducible exact hHeld.below hb5 | with_reducible exact hHeld.alloc _ | with_reducible exact K5.alloc _ | with_reducible exact hHeld.far2 (by simp only [Off]; repeat' (first | exact trivial | refine And.intro ?_ ?_ | omega)) (by omega) _ _ | with_reducible exact K5.far2 (by simp only [Off]; repeat' (first | exact trivial | refine And.intro ?_ ?_ | omega)) (by omega) _ _ | with_reducible exact (K5.alloc _).far2 (by simp only [Off]; repeat' (first | exact trivial | refine And.intro ?_ ?_ | omega)) (by omega) _ _)
      clear hK K hHeld
      have hHeld := hHeld2
      clear hHeld2
      try simp only [Act.put, List.setIfInBounds_toArray, List.set_cons_zero, List.set_cons_succ]
      refine wpAnyH_ready (rs := [5, 6]) (by kernel_rfl) (by simp) ?rdy5070
      refine (AllReadyH.cons (List.getElem?_toArray.trans rfl) (fun K hK => ?stp5070_5) (AllReadyH.cons (List.getElem?_toArray.trans rfl) (fun K hK => ?stp5070_6) AllReadyH.nil))
      case stp5070_5 =>
        go_simp
        go_wp2_with fail
        (refine (S1.out _).mono ?_; rintro e w5 ⟨rfl, hb5⟩; have K5 := hHeld.below hb5; have s5 : w4.heap.size ≤ w5.heap.size := (by have := hb5.size; first | exact this | (simp at this; omega)); first | (have U5 := U4.below hb5; obtain ⟨a0, a1, a2, a3, a4⟩ := U5.two) | (have U5 : Blk w5 w4.heap.size #[.int .u64 0, .int .u64 0] 24 := Blk.via hb5 (Blk.new w4 #[.int .u64 0, .int .u64 0] 24) rfl; obtain ⟨p0, p1, p2, p3, p4⟩ := U5.two) | skip)
        go_wp2_with fail
        refine hK.out _ _ ?hSn5071 (fun hHeld2 => ?rest5071)
        case hSn5071 => (first | with_reducible exact R0.drew | with_reducible exact (R0.alloc _).drew | with_reducible exact hHeld.below hb4 | with_reducible exact hHeld.below hb5 | with_reducible exact hHeld.alloc _ | with_reducible exact K5.alloc _ | with_reducible exact hHeld.far2 (by simp only [Off]; repeat' (first | exact trivial | refine And.intro ?_ ?_ | omega)) (by omega) _ _ | with_reducible exact K5.far2 (by simp only [Off]; repeat' (first | exact trivial | refine And.intro ?_ ?_ | omega)) (by omega) _ _ | with_reducible exact (K5.alloc _).far2 (by simp only [Off]; repeat' (first | exact trivial | refine And.intro ?_ ?_ | omega)) (by omega) _ _)
        clear hK K hHeld
        have hHeld := hHeld2
        clear hHeld2
        try simp only [Act.put, List.setIfInBounds_toArray, List.set_cons_zero, List.set_cons_succ]
        refine wpAnyH_ready (rs := [6]) (by kernel_rfl) (by simp) ?rdy5072
        refine (AllReadyH.cons (List.getElem?_toArray.trans rfl) (fun K hK => ?stp5072_6) AllReadyH.nil)
        case stp5072_6 =>
          go_simp
          go_wp2_with fail
          refine hK.out _ _ ?hSn5073 (fun hHeld2 => ?rest5073)
          case hSn5073 => (first | with_reducible exact R0.drew | with_reducible exact (R0.alloc _).drew | with_reducible exact hHeld.below hb4 | with_reducible exact hHeld.below hb5 | with_reducible exact hHeld.alloc _ | with_reducible exact K5.alloc _ | with_reducible exact hHeld.far2 (by simp only [Off]; repeat' (first | exact trivial | refine And.intro ?_ ?_ | omega)) (by omega) _ _ | with_reducible exact K5.far2 (by simp only [Off]; repeat' (first | exact trivial | refine And.intro ?_ ?_ | omega)) (by omega) _ _ | with_reducible exact (K5.alloc _).far2 (by simp only [Off]; repeat' (first | exact trivial | refine And.intro ?_ ?_ | omega)) (by omega) _ _)
          clear hK K hHeld
          have hHeld := hHeld2
          clear hHeld2
          try simp only [Act.put, List.setIfInBounds_toArray, List.set_cons_zero, List.set_cons_succ]
          refine wpAnyH_ready (rs := [7]) (by kernel_rfl) (by simp) ?rdy5074
          refine (AllReadyH.cons (List.getElem?_toArray.trans rfl) (fun K hK => ?stp5074_7) AllReadyH.nil)
          case stp5074_7 =>
            go_simp
            go_wp2_with fail
            refine hK.out _ _ ?hSn5075 (fun hHeld2 => ?rest5075)
            case hSn5075 => (first | with_reducible exact R0.drew | with_reducible exact (R0.alloc _).drew | with_reducible exact hHeld.below hb4 | with_reducible exact hHeld.below hb5 | with_reducible exact hHeld.alloc _ | with_reducible exact K5.alloc _ | with_reducible exact hHeld.far2 (by simp only [Off]; repeat' (first | exact trivial | refine And.intro ?_ ?_ | omega)) (by omega) _ _ | with_reducible exact K5.far2 (by simp only [Off]; repeat' (first | exact trivial | refine And.intro ?_ ?_ | omega)) (by omega) _ _ | with_reducible exact (K5.alloc _).far2 (by simp only [Off]; repeat' (first | exact trivial | refine And.intro ?_ ?_ | omega)) (by omega) _ _)
            clear hK K hHeld
            have hHeld := hHeld2
            clear hHeld2
            try simp only [Act.put, List.setIfInBounds_toArray, List.set_cons_zero, List.set_cons_succ]
            refine wpAnyH_done (by kernel_rfl) ?_ _
            go_wp2_with fail
            go_meet
            case rel => exact ⟨_, rfl, (by omega), (by repeat (first | with_reducible exact Blk.new _ _ _ | with_reducible exact U5 | with_reducible refine Blk.put2 (x := .int .u64 0) (y := .int .u64 0) ?_ _ _)), hHeld⟩
      case stp5070_6 =>
        go_simp
        go_wp2_with fail
        refine hK.out _ _ ?hSn5076 (fun hHeld2 => ?rest5076)
        case hSn5076 => (first | with_reducible exact R0.drew | with_reducible exact (R0.alloc _).drew | with_reducible exact hHeld.below hb4 | with_reducible exact hHeld.below hb5 | with_reducible exact hHeld.alloc _ | with_reducible exact K5.alloc _ | with_reducible exact hHeld.far2 (by simp only [Off]; repeat' (first | exact trivial | refine And.intro ?_ ?_ | omega)) (by omega) _ _ | with_reducible exact K5.far2 (by simp only [Off]; repeat' (first | exact trivial | refine And.intro ?_ ?_ | omega)) (by omega) _ _ | with_reducible exact (K5.alloc _).far2 (by simp only [Off]; repeat' (first | exact trivial | refine And.intro ?_ ?_ | omega)) (by omega) _ _)
        clear hK K hHeld
        have hHeld := hHeld2
        clear hHeld2
        try simp only [Act.put, List.setIfInBounds_toArray, List.set_cons_zero, List.set_cons_succ]
        refine wpAnyH_ready (rs := [5]) (by kernel_rfl) (by simp) ?rdy5077
        refine (AllReadyH.cons (List.getElem?_toArray.trans rfl) (fun K hK => ?stp5077_5) AllReadyH.nil)
        case stp5077_5 =>
          go_simp
          go_wp2_with fail
          (refine (S1.out _).mono ?_; rintro e w5 ⟨rfl, hb5⟩; have K5 := hHeld.below hb5; have s5 : w4.heap.size ≤ w5.heap.size := (by have := hb5.size; first | exact this | (simp at this; omega)); first | (have U5 := U4.below hb5; obtain ⟨a0, a1, a2, a3, a4⟩ := U5.two) | (have U5 : Blk w5 w4.heap.size #[.int .u64 0, .int .u64 0] 24 := Blk.via hb5 (Blk.new w4 #[.int .u64 0, .int .u64 0] 24) rfl; obtain ⟨p0, p1, p2, p3, p4⟩ := U5.two) | skip)
          go_wp2_with fail
          refine hK.out _ _ ?hSn5078 (fun hHeld2 => ?rest5078)
          case hSn5078 => (first | with_reducible exact R0.drew | with_reducible exact (R0.alloc _).drew | with_reducible exact hHeld.below hb4 | with_reducible exact hHeld.below hb5 | with_reducible exact hHeld.alloc _ | with_reducible exact K5.alloc _ | with_reducible exact hHeld.far2 (by simp only [Off]; repeat' (first | exact trivial | refine And.intro ?_ ?_ | omega)) (by omega) _ _ | with_reducible exact K5.far2 (by simp only [Off]; repeat' (first | exact trivial | refine And.intro ?_ ?_ | omega)) (by omega) _ _ | with_reducible exact (K5.alloc _).far2 (by simp only [Off]; repeat' (first | exact trivial | refine And.intro ?_ ?_ | omega)) (by omega) _ _)
          clear hK K hHeld
          have hHeld := hHeld2
          clear hHeld2
          try simp only [Act.put, List.setIfInBounds_toArray, List.set_cons_zero, List.set_cons_succ]
          refine wpAnyH_ready (rs := [7]) (by kernel_rfl) (by simp) ?rdy5079
          refine (AllReadyH.cons (List.getElem?_toArray.trans rfl) (fun K hK => ?stp5079_7) AllReadyH.nil)
          case stp5079_7 =>
            go_simp
            go_wp2_with fail
            refine hK.out _ _ ?hSn5080 (fun hHeld2 => ?rest5080)
            case hSn5080 => (first | with_reducible exact R0.drew | with_reducible exact (R0.alloc _).drew | with_reducible exact hHeld.below hb4 | with_reducible exact hHeld.below hb5 | with_reducible exact hHeld.alloc _ | with_reducible exact K5.alloc _ | with_reducible exact hHeld.far2 (by simp only [Off]; repeat' (first | exact trivial | refine And.intro ?_ ?_ | omega)) (by omega) _ _ | with_reducible exact K5.far2 (by simp only [Off]; repeat' (first | exact trivial | refine And.intro ?_ ?_ | omega)) (by omega) _ _ | with_reducible exact (K5.alloc _).far2 (by simp only [Off]; repeat' (first | exact trivial | refine And.intro ?_ ?_ | omega)) (by omega) _ _)
            clear hK K hHeld
            have hHeld := hHeld2
            clear hHeld2
            try simp only [Act.put, List.setIfInBounds_toArray, List.set_cons_zero, List.set_cons_succ]
            refine wpAnyH_done (by kernel_rfl) ?_ _
            go_wp2_with fail
            go_meet
            case rel => exact ⟨_, rfl, (by omega), (by repeat (first | with_reducible exact Blk.new _ _ _ | with_reducible exact U5 | with_reducible refine Blk.put2 (x := .int .u64 0) (y := .int .u64 0) ?_ _ _)), hHeld⟩
    case stp5068_6 =>
      go_simp
      go_wp2_with fail
      refine hK.out _ _ ?hSn5081 (fun hHeld2 => ?rest5081)
      case hSn5081 => (first | with_reducible exact R0.drew | with_reducible exact (R0.alloc _).drew | with_reducible exact hHeld.below hb4 | with_reducible exact hHeld.below hb5 | with_reducible exact hHeld.alloc _ | with_reducible exact K5.alloc _ | with_reducible exact hHeld.far2 (by simp only [Off]; repeat' (first | exact trivial | refine And.intro ?_ ?_ | omega)) (by omega) _ _ | with_reducible exact K5.far2 (by simp only [Off]; repeat' (first | exact trivial | refine And.intro ?_ ?_ | omega)) (by omega) _ _ | with_reducible exact (K5.alloc _).far2 (by simp only [Off]; repeat' (first | exact trivial | refine And.intro ?_ ?_ | omega)) (by omega) _ _)
      clear hK K hHeld
      have hHeld := hHeld2
      clear hHeld2
      try simp only [Act.put, List.setIfInBounds_toArray, List.set_cons_zero, List.set_cons_succ]
      refine wpAnyH_ready (rs := [0]) (by kernel_rfl) (by simp) ?rdy5082
      refine (AllReadyH.cons (List.getElem?_toArray.trans rfl) (fun K hK => ?stp5082_0) AllReadyH.nil)
      case stp5082_0 =>
        go_simp
        go_wp2_with fail
        (refine (O1.out _).mono ?_; rintro e w4 ⟨rfl, hb4⟩; have s4 : w0.heap.size ≤ w4.heap.size := (by have := hb4.size; first | exact this | (simp at this; omega)); first | (have U4 : Blk w4 w0.heap.size #[.int .u64 0, .int .u64 0] 24 := Blk.via hb4 (Blk.new w0 #[.int .u64 0, .int .u64 0] 24) rfl; obtain ⟨u0, u1, u2, u3, u4⟩ := U4.two) | skip)
        go_wp2_with fail
        refine hK.out _ _ ?hSn5083 (fun hHeld2 => ?rest5083)
        case hSn5083 => (first | with_reducible exact R0.drew | with_reducible exact (R0.alloc _).drew | with_reducible exact hHeld.below hb4 | with_reducible exact hHeld.below hb5 | with_reducible exact hHeld.alloc _ | with_reducible exact K5.alloc _ | with_reducible exact hHeld.far2 (by simp only [Off]; repeat' (first | exact trivial | refine And.intro ?_ ?_ | omega)) (by omega) _ _ | with_reducible exact K5.far2 (by simp only [Off]; repeat' (first | exact trivial | refine And.intro ?_ ?_ | omega)) (by omega) _ _ | with_reducible exact (K5.alloc _).far2 (by simp only [Off]; repeat' (first | exact trivial | refine And.intro ?_ ?_ | omega)) (by omega) _ _)
        clear hK K hHeld
        have hHeld := hHeld2
        clear hHeld2
        try simp only [Act.put, List.setIfInBounds_toArray, List.set_cons_zero, List.set_cons_succ]
        refine wpAnyH_ready (rs := [5]) (by kernel_rfl) (by simp) ?rdy5084
        refine (AllReadyH.cons (List.getElem?_toArray.trans rfl) (fun K hK => ?stp5084_5) AllReadyH.nil)
        case stp5084_5 =>
          go_simp
          go_wp2_with fail
          (refine (S1.out _).mono ?_; rintro e w5 ⟨rfl, hb5⟩; have K5 := hHeld.below hb5; have s5 : w4.heap.size ≤ w5.heap.size := (by have := hb5.size; first | exact this | (simp at this; omega)); first | (have U5 := U4.below hb5; obtain ⟨a0, a1, a2, a3, a4⟩ := U5.two) | (have U5 : Blk w5 w4.heap.size #[.int .u64 0, .int .u64 0] 24 := Blk.via hb5 (Blk.new w4 #[.int .u64 0, .int .u64 0] 24) rfl; obtain ⟨p0, p1, p2, p3, p4⟩ := U5.two) | skip)
          go_wp2_with fail
          refine hK.out _ _ ?hSn5085 (fun hHeld2 => ?rest5085)
          case hSn5085 => (first | with_reducible exact R0.drew | with_reducible exact (R0.alloc _).drew | with_reducible exact hHeld.below hb4 | with_reducible exact hHeld.below hb5 | with_reducible exact hHeld.alloc _ | with_reducible exact K5.alloc _ | with_reducible exact hHeld.far2 (by simp only [Off]; repeat' (first | exact trivial | refine And.intro ?_ ?_ | omega)) (by omega) _ _ | with_reducible exact K5.far2 (by simp only [Off]; repeat' (first | exact trivial | refine And.intro ?_ ?_ | omega)) (by omega) _ _ | with_reducible exact (K5.alloc _).far2 (by simp only [Off]; repeat' (first | exact trivial | refine And.intro ?_ ?_ | omega)) (by omega) _ _)
          clear hK K hHeld
          have hHeld := hHeld2
          clear hHeld2
          try simp only [Act.put, List.setIfInBounds_toArray, List.set_cons_zero, List.set_cons_succ]
          refine wpAnyH_ready (rs := [7]) (by kernel_rfl) (by simp) ?rdy5086
          refine (AllReadyH.cons (List.getElem?_toArray.trans rfl) (fun K hK => ?stp5086_7) AllReadyH.nil)
          case stp5086_7 =>
            go_simp
            go_wp2_with fail
            refine hK.out _ _ ?hSn5087 (fun hHeld2 => ?rest5087)
            case hSn5087 => (first | with_reducible exact R0.drew | with_reducible exact (R0.alloc _).drew | with_reducible exact hHeld.below hb4 | with_reducible exact hHeld.below hb5 | with_reducible exact hHeld.alloc _ | with_reducible exact K5.alloc _ | with_reducible exact hHeld.far2 (by simp only [Off]; repeat' (first | exact trivial | refine And.intro ?_ ?_ | omega)) (by omega) _ _ | with_reducible exact K5.far2 (by simp only [Off]; repeat' (first | exact trivial | refine And.intro ?_ ?_ | omega)) (by omega) _ _ | with_reducible exact (K5.alloc _).far2 (by simp only [Off]; repeat' (first | exact trivial | refine And.intro ?_ ?_ | omega)) (by omega) _ _)
            clear hK K hHeld
            have hHeld := hHeld2
            clear hHeld2
            try simp only [Act.put, List.setIfInBounds_toArray, List.set_cons_zero, List.set_cons_succ]
            refine wpAnyH_done (by kernel_rfl) ?_ _
            go_wp2_with fail
            go_meet
            case rel => exact ⟨_, rfl, (by omega), (by repeat (first | with_reducible exact Blk.new _ _ _ | with_reducible exact U5 | with_reducible refine Blk.put2 (x := .int .u64 0) (y := .int .u64 0) ?_ _ _)), hHeld⟩
  case rest =>
    obtain ⟨X, rfl, hX, N, R⟩ := hcut
    clear R0 LT hs0 O1 S1
    have R0 : Kn w [(X, [.int .u64 rh, .int .u64 rl], 24)] wc := Kn.of ⟨N, trivial⟩ R.bel
    obtain ⟨r0, r1, r2, r3, r4⟩ := R.2.1.1.two
    have B := R.bel
    have of1 : Off (w.heap.size + 1) [(X, [.int .u64 rh, .int .u64 rl], 24)] := by simp only [Off]; exact ⟨by omega, trivial⟩
    have le1 : w.heap.size ≤ w.heap.size + 1 := by omega
    clear R N
    go_upto_region 4 with fail
    refine wp_region_held_drew (S := (Kn w [(X, [.int .u64 rh, .int .u64 rl], 24)])) (by kernel_rfl) ?hS300 (fun hHeld => ?rest300)
    case hS300 => (first | with_reducible exact R0.drew | with_reducible exact hHeld.far2 of1 le1 _ _ | with_reducible exact (R0.far2 of1 le1 _ _).drew)
    refine wpAnyH_take (i := 0) (oi := _) (v := ?v301) (List.getElem?_toArray.trans rfl) (by kernel_rfl) (by kernel_rfl) (by kernel_rfl) (fun _ _ _ h => h) (Or.inl ⟨by rfl, ?hy301⟩) (by assumption) ?rest301
    case hy301 => (intro wq hSw; (try simp only [Two, Kn, Facts, CellsAt] at hSw); go_simp; try with_reducible rfl)
    try simp only [Act.put, List.setIfInBounds_toArray, List.set_cons_zero, List.set_cons_succ]
    refine wpAnyH_take (i := 1) (oi := _) (v := ?v302) (List.getElem?_toArray.trans rfl) (by kernel_rfl) (by kernel_rfl) (by kernel_rfl) (fun _ _ _ h => h) (Or.inl ⟨by rfl, ?hy302⟩) (by assumption) ?rest302
    case hy302 => (intro wq hSw; (try simp only [Two, Kn, Facts, CellsAt] at hSw); go_simp; try with_reducible rfl)
    try simp only [Act.put, List.setIfInBounds_toArray, List.set_cons_zero, List.set_cons_succ]
    refine wpAnyH_take (i := 2) (oi := _) (v := ?v303) (List.getElem?_toArray.trans rfl) (by kernel_rfl) (by kernel_rfl) (by kernel_rfl) (fun _ _ _ h => h) (Or.inl ⟨by rfl, ?hy303⟩) (by assumption) ?rest303
    case hy303 => (intro wq hSw; (try simp only [Two, Kn, Facts, CellsAt] at hSw); go_simp; try with_reducible rfl)
    try simp only [Act.put, List.setIfInBounds_toArray, List.set_cons_zero, List.set_cons_succ]
    refine wpAnyH_take (i := 3) (oi := _) (v := (Value.bool false)) (List.getElem?_toArray.trans rfl) (by kernel_rfl) (by kernel_rfl) (by kernel_rfl) (fun _ _ _ h => h) (Or.inl ⟨by rfl, ?hy304⟩) (by assumption) ?rest304
    case hy304 => (intro wq hSw; (try simp only [Two, Kn, Facts, CellsAt] at hSw); go_simp; (all_goals (have nz := NZ.out; simp [nz.1, nz.2])))
    try simp only [Act.put, List.setIfInBounds_toArray, List.set_cons_zero, List.set_cons_succ]
    refine wpAnyH_ready (rs := [4]) (by kernel_rfl) (by simp) ?rdy305
    refine AllReadyH.cons (List.getElem?_toArray.trans rfl) (fun K hK => ?stp305) AllReadyH.nil
    go_simp
    go_wp2_with fail
    skip
    go_wp2_with fail
    refine hK.out _ _ ?hSn305 (fun hHeld2 => ?rest305)
    case hSn305 => (first | with_reducible exact R0.drew | with_reducible exact hHeld.far2 of1 le1 _ _ | with_reducible exact (R0.far2 of1 le1 _ _).drew)
    clear hK K hHeld
    have hHeld := hHeld2
    clear hHeld2
    try simp only [Act.put, List.setIfInBounds_toArray, List.set_cons_zero, List.set_cons_succ]
    refine wpAnyH_take (i := 5) (oi := _) (v := ?v306) (List.getElem?_toArray.trans rfl) (by kernel_rfl) (by kernel_rfl) (by kernel_rfl) (fun _ _ _ h => h) (Or.inl ⟨by rfl, ?hy306⟩) (by assumption) ?rest306
    case hy306 => (intro wq hSw; (try simp only [Two, Kn, Facts, CellsAt] at hSw); go_simp; try with_reducible rfl)
    try simp only [Act.put, List.setIfInBounds_toArray, List.set_cons_zero, List.set_cons_succ]
    refine wpAnyH_take (i := 6) (oi := _) (v := ?v307) (List.getElem?_toArray.trans rfl) (by kernel_rfl) (by kernel_rfl) (by kernel_rfl) (fun _ _ _ h => h) (Or.inl ⟨by rfl, ?hy307⟩) (by assumption) ?rest307
    case hy307 => (intro wq hSw; (try simp only [Two, Kn, Facts, CellsAt] at hSw); go_simp; try with_reducible rfl)
    try simp only [Act.put, List.setIfInBounds_toArray, List.set_cons_zero, List.set_cons_succ]
    refine wpAnyH_done (by kernel_rfl) ?fin300 _
    clear hHeld R0 of1 NZ
    go_wp2
    refine bodyPost_ret (v := .tuple #[nv rh rl, .bool false, .int .i64 0]) (by simp [results, Tryz.results140, go_sem, World.cell?_setCell_same', World.cell?_setCell_other, *]) rfl ⟨rfl, by repeat (first | with_reducible exact Below.refl _ _ | with_reducible refine Below.drew ?_ | with_reducible refine Below.alloc ?_ (by first | omega | (simp <;> omega)) _ | with_reducible refine Below.setCell ?_ (by first | omega | (simp <;> omega)) _ | with_reducible refine Below.trans ?_ (Below.mono B (by first | omega | (simp <;> omega))))⟩

theorem blks_ok {v t : Bool} {h l b k rh rl : Int} {n : Nat} (hp : IsNum h l n) (hc : cutB v n b k = true) (hr : CountIs (k - b).toNat rh rl t) (w : World) :
    Calls Tryz.prog 140 #[pv v h l b, .int .i64 k] w fun e w' => e = .returned (.tuple #[nv rh rl, .bool t, .int .i64 0]) ∧ Below w.heap.size w w' := by
  rcases hr.nought with ⟨rfl, nz⟩ | ⟨rfl, nz⟩
  · exact blks_ok_t hp hc hr.mod nz w
  · exact blks_ok_f hp hc hr.mod nz w

set_option maxRecDepth 100000 in
set_option maxHeartbeats 1600000 in
theorem hosts_any {v t : Bool} {h l b rh rl ec W : Int} (hW : widthA v = W) (BK : Hid (∀ w', Calls Tryz.prog 140 #[pv v h l b, .int .i64 W] w' fun e w1 => e = .returned (.tuple #[nv rh rl, .bool t, .int .i64 ec]) ∧ Below w'.heap.size w' w1)) (w : World) :
    Calls Tryz.prog 106 #[pv v h l b] w fun e w' => e = .returned (.tuple #[nv rh rl, .bool t, .int .i64 ec]) ∧ Below w.heap.size w w' := by
  have CW : Hid (∀ w', Calls Tryz.prog 49 #[av v h l] w' fun e w1 => e = .returned (.int .i64 W) ∧ Below w'.heap.size w' w1) := fun w' => width_lit v W hW h l w'
  have K := blks_start w v h l b
  have R0 := K.tail
  have N0 := K.2.1.1
  have of1 : Off (w.heap.size + 1) [(w.heap.size, [.bool v, .int .u64 h, .int .u64 l, .int .i64 b], 28)] := by simp only [Off]; exact ⟨by omega, trivial⟩
  have le1 : w.heap.size ≤ w.heap.size + 1 := by omega
  clear hW K
  go_enter Tryz.func106, Tryz.ntmps106
  go_wp2_with fail
  refine wp_region_held_drew (S := (Kn w [(w.heap.size, [.bool v, .int .u64 h, .int .u64 l, .int .i64 b], 28)])) (by kernel_rfl) ?hS400 (fun hHeld => ?rest400)
  case hS400 => (first | with_reducible exact R0.drew | with_reducible exact hHeld.below hb4 | with_reducible exact hHeld.below hb5 | with_reducible exact hHeld.far2 of1 le1 _ _)
  refine wpAnyH_take (i := 0) (oi := _) (v := ?v401) (List.getElem?_toArray.trans rfl) (by kernel_rfl) (by kernel_rfl) (by kernel_rfl) (fun _ _ _ h => h) (Or.inl ⟨by rfl, ?hy401⟩) (by assumption) ?rest401
  case hy401 => (intro wq hSw; (try simp only [Two, Kn, Facts, CellsAt] at hSw); go_simp; try with_reducible rfl)
  try simp only [Act.put, List.setIfInBounds_toArray, List.set_cons_zero, List.set_cons_succ]
  refine wpAnyH_take (i := 1) (oi := _) (v := ?v402) (List.getElem?_toArray.trans rfl) (by kernel_rfl) (by kernel_rfl) (by kernel_rfl) (fun _ _ _ h => h) (Or.inl ⟨by rfl, ?hy402⟩) (by assumption) ?rest402
  case hy402 => (intro wq hSw; (try simp only [Two, Kn, Facts, CellsAt] at hSw); go_simp; try with_reducible rfl)
  try simp only [Act.put, List.setIfInBounds_toArray, List.set_cons_zero, List.set_cons_succ]
  refine wpAnyH_take (i := 2) (oi := _) (v := ?v403) (List.getElem?_toArray.trans rfl) (by kernel_rfl) (by kernel_rfl) (by kernel_rfl) (fun _ _ _ h => h) (Or.inl ⟨by rfl, ?hy403⟩) (by assumption) ?rest403
  case hy403 => (intro wq hSw; (try simp only [Two, Kn, Facts, CellsAt] at hSw); go_simp; try with_reducible rfl)
  try simp only [Act.put, List.setIfInBounds_toArray, List.set_cons_zero, List.set_cons_succ]
  refine wpAnyH_ready (rs := [3]) (by kernel_rfl) (by simp) ?rdy404
  refine AllReadyH.cons (List.getElem?_toArray.trans rfl) (fun K hK => ?stp404) AllReadyH.nil
  go_simp
  go_wp2_with fail
  (refine (CW.out _).mono ?_; rintro e w4 ⟨rfl, hb4⟩)
  go_wp2_with fail
  refine hK.out _ _ ?hSn404 (fun hHeld2 => ?rest404)
  case hSn404 => (first | with_reducible exact R0.drew | with_reducible exact hHeld.below hb4 | with_reducible exact hHeld.below hb5 | with_reducible exact hHeld.far2 of1 le1 _ _)
  clear hK K hHeld
  have hHeld := hHeld2
  clear hHeld2
  try simp only [Act.put, List.setIfInBounds_toArray, List.set_cons_zero, List.set_cons_succ]
  refine wpAnyH_ready (rs := [4]) (by kernel_rfl) (by simp) ?rdy405
  refine AllReadyH.cons (List.getElem?_toArray.trans rfl) (fun K hK => ?stp405) AllReadyH.nil
  go_simp
  go_wp2_with fail
  (refine (BK.out _).mono ?_; rintro e w5 ⟨rfl, hb5⟩; have B5 := (hHeld.below hb5).bel; obtain ⟨r0, r1, r2, r3, r4⟩ := ((N0.via hb4 rfl).below hb5).two)
  go_wp2_with fail
  refine hK.out _ _ ?hSn405 (fun hHeld2 => ?rest405)
  case hSn405 => (first | with_reducible exact R0.drew | with_reducible exact hHeld.below hb4 | with_reducible exact hHeld.below hb5 | with_reducible exact hHeld.far2 of1 le1 _ _)
  clear hK K hHeld
  have hHeld := hHeld2
  clear hHeld2
  try simp only [Act.put, List.setIfInBounds_toArray, List.set_cons_zero, List.set_cons_succ]
  refine wpAnyH_take (i := 5) (oi := _) (v := ?v406) (List.getElem?_toArray.trans rfl) (by kernel_rfl) (by kernel_rfl) (by kernel_rfl) (fun _ _ _ h => h) (Or.inl ⟨by rfl, ?hy406⟩) (by assumption) ?rest406
  case hy406 => (intro wq hSw; (try simp only [Two, Kn, Facts, CellsAt] at hSw); go_simp; try with_reducible rfl)
  try simp only [Act.put, List.setIfInBounds_toArray, List.set_cons_zero, List.set_cons_succ]
  refine wpAnyH_take (i := 6) (oi := _) (v := ?v407) (List.getElem?_toArray.trans rfl) (by kernel_rfl) (by kernel_rfl) (by kernel_rfl) (fun _ _ _ h => h) (Or.inl ⟨by rfl, ?hy407⟩) (by assumption) ?rest407
  case hy407 => (intro wq hSw; (try simp only [Two, Kn, Facts, CellsAt] at hSw); go_simp; try with_reducible rfl)
  try simp only [Act.put, List.setIfInBounds_toArray, List.set_cons_zero, List.set_cons_succ]
  refine wpAnyH_take (i := 7) (oi := _) (v := ?v408) (List.getElem?_toArray.trans rfl) (by kernel_rfl) (by kernel_rfl) (by kernel_rfl) (fun _ _ _ h => h) (Or.inl ⟨by rfl, ?hy408⟩) (by assumption) ?rest408
  case hy408 => (intro wq hSw; (try simp only [Two, Kn, Facts, CellsAt] at hSw); go_simp; try with_reducible rfl)
  try simp only [Act.put, List.setIfInBounds_toArray, List.set_cons_zero, List.set_cons_succ]
  refine wpAnyH_ready (rs := [8]) (by kernel_rfl) (by simp) ?rdy409
  refine AllReadyH.cons (List.getElem?_toArray.trans rfl) (fun K hK => ?stp409) AllReadyH.nil
  go_simp
  go_wp2_with fail
  skip
  go_wp2_with fail
  refine hK.out _ _ ?hSn409 (fun hHeld2 => ?rest409)
  case hSn409 => (first | with_reducible exact R0.drew | with_reducible exact hHeld.below hb4 | with_reducible exact hHeld.below hb5 | with_reducible exact hHeld.far2 of1 le1 _ _)
  clear hK K hHeld
  have hHeld := hHeld2
  clear hHeld2
  try simp only [Act.put, List.setIfInBounds_toArray, List.set_cons_zero, List.set_cons_succ]
  refine wpAnyH_take (i := 9) (oi := _) (v := ?v410) (List.getElem?_toArray.trans rfl) (by kernel_rfl) (by kernel_rfl) (by kernel_rfl) (fun _ _ _ h => h) (Or.inl ⟨by rfl, ?hy410⟩) (by assumption) ?rest410
  case hy410 => (intro wq hSw; (try simp only [Two, Kn, Facts, CellsAt] at hSw); go_simp; try with_reducible rfl)
  try simp only [Act.put, List.setIfInBounds_toArray, List.set_cons_zero, List.set_cons_succ]
  refine wpAnyH_take (i := 10) (oi := _) (v := ?v411) (List.getElem?_toArray.trans rfl) (by kernel_rfl) (by kernel_rfl) (by kernel_rfl) (fun _ _ _ h => h) (Or.inl ⟨by rfl, ?hy411⟩) (by assumption) ?rest411
  case hy411 => (intro wq hSw; (try simp only [Two, Kn, Facts, CellsAt] at hSw); go_simp; try with_reducible rfl)
  try simp only [Act.put, List.setIfInBounds_toArray, List.set_cons_zero, List.set_cons_succ]
  refine wpAnyH_done (by kernel_rfl) ?fin400 _
  clear hHeld hb4 hb5 R0 N0 of1 CW BK
  go_wp2
  refine bodyPost_ret (v := .tuple #[nv rh rl, .bool t, .int .i64 ec]) (by simp [results, Tryz.results106, go_sem, World.cell?_setCell_same', World.cell?_setCell_other, *]) rfl ⟨rfl, by repeat (first | with_reducible exact Below.refl _ _ | with_reducible refine Below.drew ?_ | with_reducible refine Below.alloc ?_ (by first | omega | (simp <;> omega)) _ | with_reducible refine Below.setCell ?_ (by first | omega | (simp <;> omega)) _ | with_reducible refine Below.trans ?_ (Below.mono B5 (by first | omega | (simp <;> omega))))⟩
end Go.Proofs.YtighdocmncbdnaaGreatDoor

namespace Go.Proofs.YtighdocmncbdnaaGreatDoor
open Go.ChangeShapes Go.WideShapes Go.ChangeAt Go.RowKit
set_option linter.unusedVariables false
set_option linter.unusedSimpArgs false

theorem BitRow.far {w : World} {g n a D : Nat} (x : BitRow w g n a) (hne : g ≠ D) (i : Nat) (u : Value) : BitRow (w.setCell ⟨D, i, none⟩ u) g n a :=
  ⟨by simpa [World.setCell] using x.1, fun j hj => by rw [World.cell?_of_block (w := w) (Below.heap_setCell _ _ _ _ hne)]; exact x.2 j hj⟩

end Go.Proofs.YtighdocmncbdnaaGreatDoor

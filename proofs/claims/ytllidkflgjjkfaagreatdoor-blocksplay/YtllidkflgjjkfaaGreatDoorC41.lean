/-
  Texts Se4 of the proof.
-/
import Derived.Deep.DeepCutAuto
import Derived.Test.YtllidkflgjjkfaaGreatDoorC39
import Derived.Test.YtllidkflgjjkfaaGreatDoorC0

namespace Go.Proofs.YtllidkflgjjkfaaGreatDoor
open Go.ChangeShapes Go.WideShapes Go.ChangeAt Go.RowKit
set_option linter.unusedVariables false
set_option linter.unusedSimpArgs false

theorem Blk.newB7 (W : World) (o : Obj) (cs : Array Value) (t : TypeId) : Blk ((W.alloc o).alloc (.cells cs t)) (W.heap.size + 1) cs t := by simpa using Blk.new (W.alloc o) cs t

theorem Blk.newsB7 (W : World) (p q : Addr) (x y : Value) (cs : Array Value) (t : TypeId) : Blk (((W.setCell p x).setCell q y).alloc (.cells cs t)) W.heap.size cs t := by simpa using Blk.new ((W.setCell p x).setCell q y) cs t

set_option maxRecDepth 100000 in
set_option maxHeartbeats 3200000 in
theorem sspan_w {v u : Bool} {h l b k qh ql c fh fl gh gl e0 cu A Z : Int} {a x : Nat} (hA : IntKind.i64.wrap fl = A) (hZ : IntKind.i64.wrap gl = Z)
    (SP : Hid (∀ w', Calls Tryz.prog 126 #[pv v h l b, .int .i64 k, pv u qh ql c] w' fun e w1 => e = .returned (.tuple #[nv fh fl, nv gh gl, .int .i64 e0]) ∧ Below w'.heap.size w' w1)) (w : World)
    (hx : Blk w x #[.bool v, .int .u64 h, .int .u64 l, .int .i64 b, .int .i64 k, .pointer (some ⟨a, 0, none⟩), .int .i64 cu] 115) :
    Calls Tryz.prog 84 #[.pointer (some ⟨x, 0, none⟩), pv u qh ql c] w fun e w' => e = .returned (.tuple #[.int .i64 A, .int .i64 Z, .int .i64 e0]) ∧ Below w.heap.size w w' := by
  have R0 : Kn w [(w.heap.size, [.bool u, .int .u64 qh, .int .u64 ql, .int .i64 c], 28), (x, [.bool v, .int .u64 h, .int .u64 l, .int .i64 b, .int .i64 k, .pointer (some ⟨a, 0, none⟩), .int .i64 cu], 115)] (w.alloc (.cells #[.bool u, .int .u64 qh, .int .u64 ql, .int .i64 c] 28)) := ((Kn.nil w).cons hx).push rfl
  have hxl := hx.lt
  have HA := hide hA
  have HZ := hide hZ
  obtain ⟨w0, hw0⟩ : ∃ w0, w0 = w.alloc (.cells #[.bool u, .int .u64 qh, .int .u64 ql, .int .i64 c] 28) := ⟨_, rfl⟩
  rw [← hw0] at R0
  have LT := R0.lts
  simp only [Lts] at LT
  have hs0 := R0.bel.size
  clear hx hA hZ
  go_enter Tryz.func84, Tryz.ntmps84
  go_upto_region 3 with fail
  rw [← hw0]
  clear hw0
  go_cut [7, 8, 9] (fun p q t wc => ∃ X Y : Nat, p = .pointer (some ⟨X, 0, none⟩) ∧ q = .pointer (some ⟨Y, 0, none⟩) ∧ t = .int .i64 e0 ∧ Blk wc X #[.int .u64 fh, .int .u64 fl] 24 ∧ Blk wc Y #[.int .u64 gh, .int .u64 gl] 24 ∧ Kn w [(w.heap.size, [.bool u, .int .u64 qh, .int .u64 ql, .int .i64 c], 28), (x, [.bool v, .int .u64 h, .int .u64 l, .int .i64 b, .int .i64 k, .pointer (some ⟨a, 0, none⟩), .int .i64 cu], 115)] wc)
  case first =>
    refine wp_region_held_drew (S := (Kn w [(w.heap.size, [.bool u, .int .u64 qh, .int .u64 ql, .int .i64 c], 28), (x, [.bool v, .int .u64 h, .int .u64 l, .int .i64 b, .int .i64 k, .pointer (some ⟨a, 0, none⟩), .int .i64 cu], 115)])) (by kernel_rfl) ?hS5001 (fun hHeld => ?rest5001)
    case hS5001 => (first | with_reducible exact R0.drew | with_reducible exact (R0.alloc _).drew | with_reducible exact ((R0.alloc _).alloc _).drew | with_reducible exact hHeld.below hb4 | with_reducible exact hHeld.alloc _ | with_reducible exact hHeld.far2 (by simp only [Off]; repeat' (first | exact trivial | refine And.intro ?_ ?_ | omega)) (by omega) _ _ | with_reducible exact K4.alloc _ | with_reducible exact (K4.alloc _).alloc _ | with_reducible exact (K4.far2 (by simp only [Off]; repeat' (first | exact trivial | refine And.intro ?_ ?_ | omega)) (by omega) _ _).alloc _ | with_reducible exact (K4.alloc _).far2 (by simp only [Off]; repeat' (first | exact trivial | refine And.intro ?_ ?_ | omega)) (by omega) _ _ | with_reducible exact K4.far2 (by simp only [Off]; repeat' (first | exact trivial | refine And.intro ?_ ?_ | omega)) (by omega) _ _ | with_reducible exact ((K4.alloc _).alloc _).far2 (by simp only [Off]; repeat' (first | exact trivial | refine And.intro ?_ ?_ | omega)) (by omega) _ _)
    refine wtk7 (i := 0) (v := ?v5002) (ga7 rfl) (by kernel_rfl) (fun _ _ _ h => h) ⟨by rfl, ?hy5002⟩ (by assumption) ?rest5002
    case hy5002 => (intro wq hSw; (try simp only [Two, Kn, Facts, CellsAt] at hSw); go_simp; try with_reducible rfl)
    try simp only [Act.put, sa7, sb7, sc7]
    refine wtk7 (i := 1) (v := ?v5003) (ga7 rfl) (by kernel_rfl) (fun _ _ _ h => h) ⟨by rfl, ?hy5003⟩ (by assumption) ?rest5003
    case hy5003 => (intro wq hSw; (try simp only [Two, Kn, Facts, CellsAt] at hSw); go_simp; try with_reducible rfl)
    try simp only [Act.put, sa7, sb7, sc7]
    refine wtk7 (i := 2) (v := ?v5004) (ga7 rfl) (by kernel_rfl) (fun _ _ _ h => h) ⟨by rfl, ?hy5004⟩ (by assumption) ?rest5004
    case hy5004 => (intro wq hSw; (try simp only [Two, Kn, Facts, CellsAt] at hSw); go_simp; try with_reducible rfl)
    try simp only [Act.put, sa7, sb7, sc7]
    refine wtk7 (i := 3) (v := ?v5005) (ga7 rfl) (by kernel_rfl) (fun _ _ _ h => h) ⟨by rfl, ?hy5005⟩ (by assumption) ?rest5005
    case hy5005 => (intro wq hSw; (try simp only [Two, Kn, Facts, CellsAt] at hSw); go_simp; try with_reducible rfl)
    try simp only [Act.put, sa7, sb7, sc7]
    refine wtk7 (i := 4) (v := ?v5006) (ga7 rfl) (by kernel_rfl) (fun _ _ _ h => h) ⟨by rfl, ?hy5006⟩ (by assumption) ?rest5006
    case hy5006 => (intro wq hSw; (try simp only [Two, Kn, Facts, CellsAt] at hSw); go_simp; try with_reducible rfl)
    try simp only [Act.put, sa7, sb7, sc7]
    refine wtk7 (i := 5) (v := ?v5007) (ga7 rfl) (by kernel_rfl) (fun _ _ _ h => h) ⟨by rfl, ?hy5007⟩ (by assumption) ?rest5007
    case hy5007 => (intro wq hSw; (try simp only [Two, Kn, Facts, CellsAt] at hSw); go_simp; try with_reducible rfl)
    try simp only [Act.put, sa7, sb7, sc7]
    refine wtk7 (i := 6) (v := ?v5008) (ga7 rfl) (by kernel_rfl) (fun _ _ _ h => h) ⟨by rfl, ?hy5008⟩ (by assumption) ?rest5008
    case hy5008 => (intro wq hSw; (try simp only [Two, Kn, Facts, CellsAt] at hSw); go_simp; try with_reducible rfl)
    try simp only [Act.put, sa7, sb7, sc7]
    refine wtk7 (i := 7) (v := ?v5009) (ga7 rfl) (by kernel_rfl) (fun _ _ _ h => h) ⟨by rfl, ?hy5009⟩ (by assumption) ?rest5009
    case hy5009 => (intro wq hSw; (try simp only [Two, Kn, Facts, CellsAt] at hSw); go_simp; try with_reducible rfl)
    try simp only [Act.put, sa7, sb7, sc7]
    refine wtk7 (i := 8) (v := ?v5010) (ga7 rfl) (by kernel_rfl) (fun _ _ _ h => h) ⟨by rfl, ?hy5010⟩ (by assumption) ?rest5010
    case hy5010 => (intro wq hSw; (try simp only [Two, Kn, Facts, CellsAt] at hSw); go_simp; try with_reducible rfl)
    try simp only [Act.put, sa7, sb7, sc7]
    refine wpAnyH_ready (rs := [9, 14, 15]) (by kernel_rfl) (by simp) ?rdy5011
    refine (AllReadyH.cons (ga7 rfl) (fun K hK => ?stp5011_9) (AllReadyH.cons (ga7 rfl) (fun K hK => ?stp5011_14) (AllReadyH.cons (ga7 rfl) (fun K hK => ?stp5011_15) AllReadyH.nil)))
    case stp5011_9 =>
      go_simp
      go_wp2_with fail
      (refine (SP.out _).mono ?_; rintro e w4 ⟨rfl, hb4⟩; have K4 := hHeld.below hb4; have s4 : w0.heap.size ≤ w4.heap.size := (by have := hb4.size; first | exact this | (simp at this; omega)); first | (have U4 : Blk w4 w0.heap.size #[.int .u64 0, .int .u64 0] 24 := Blk.via hb4 ((Blk.new w0 #[.int .u64 0, .int .u64 0] 24).alloc (.cells #[.int .u64 0, .int .u64 0] 24)) rfl; have V4 : Blk w4 (w0.heap.size + 1) #[.int .u64 0, .int .u64 0] 24 := Blk.via hb4 (Blk.newB7 w0 (.cells #[.int .u64 0, .int .u64 0] 24) #[.int .u64 0, .int .u64 0] 24) rfl; obtain ⟨u0, u1, u2, u3, u4⟩ := U4.two; obtain ⟨y0, y1, y2, y3, y4⟩ := V4.two) | (have U4 : Blk w4 w0.heap.size #[.int .u64 0, .int .u64 0] 24 := Blk.via hb4 (Blk.new w0 #[.int .u64 0, .int .u64 0] 24) rfl; obtain ⟨u0, u1, u2, u3, u4⟩ := U4.two) | skip)
      go_wp2_with fail
      refine hK.out _ _ ?hSn5012 (fun hHeld2 => ?rest5012)
      case hSn5012 => (first | with_reducible exact R0.drew | with_reducible exact (R0.alloc _).drew | with_reducible exact ((R0.alloc _).alloc _).drew | with_reducible exact hHeld.below hb4 | with_reducible exact hHeld.alloc _ | with_reducible exact hHeld.far2 (by simp only [Off]; repeat' (first | exact trivial | refine And.intro ?_ ?_ | omega)) (by omega) _ _ | with_reducible exact K4.alloc _ | with_reducible exact (K4.alloc _).alloc _ | with_reducible exact (K4.far2 (by simp only [Off]; repeat' (first | exact trivial | refine And.intro ?_ ?_ | omega)) (by omega) _ _).alloc _ | with_reducible exact (K4.alloc _).far2 (by simp only [Off]; repeat' (first | exact trivial | refine And.intro ?_ ?_ | omega)) (by omega) _ _ | with_reducible exact K4.far2 (by simp only [Off]; repeat' (first | exact trivial | refine And.intro ?_ ?_ | omega)) (by omega) _ _ | with_reducible exact ((K4.alloc _).alloc _).far2 (by simp only [Off]; repeat' (first | exact trivial | refine And.intro ?_ ?_ | omega)) (by omega) _ _)
      clear hK K hHeld
      have hHeld := hHeld2
      clear hHeld2
      try simp only [Act.put, sa7, sb7, sc7]
      refine wtk7 (i := 10) (v := ?v5013) (ga7 rfl) (by kernel_rfl) (fun _ _ _ h => h) ⟨by rfl, ?hy5013⟩ (by assumption) ?rest5013
      case hy5013 => (intro wq hSw; (try simp only [Two, Kn, Facts, CellsAt] at hSw); go_simp; try with_reducible rfl)
      try simp only [Act.put, sa7, sb7, sc7]
      refine wtk7 (i := 11) (v := ?v5014) (ga7 rfl) (by kernel_rfl) (fun _ _ _ h => h) ⟨by rfl, ?hy5014⟩ (by assumption) ?rest5014
      case hy5014 => (intro wq hSw; (try simp only [Two, Kn, Facts, CellsAt] at hSw); go_simp; try with_reducible rfl)
      try simp only [Act.put, sa7, sb7, sc7]
      refine wtk7 (i := 12) (v := ?v5015) (ga7 rfl) (by kernel_rfl) (fun _ _ _ h => h) ⟨by rfl, ?hy5015⟩ (by assumption) ?rest5015
      case hy5015 => (intro wq hSw; (try simp only [Two, Kn, Facts, CellsAt] at hSw); go_simp; try with_reducible rfl)
      try simp only [Act.put, sa7, sb7, sc7]
      refine wtk7 (i := 13) (v := ?v5016) (ga7 rfl) (by kernel_rfl) (fun _ _ _ h => h) ⟨by rfl, ?hy5016⟩ (by assumption) ?rest5016
      case hy5016 => (intro wq hSw; (try simp only [Two, Kn, Facts, CellsAt] at hSw); go_simp; try with_reducible rfl)
      try simp only [Act.put, sa7, sb7, sc7]
      refine wpAnyH_ready (rs := [14, 15]) (by kernel_rfl) (by simp) ?rdy5017
      refine (AllReadyH.cons (ga7 rfl) (fun K hK => ?stp5017_14) (AllReadyH.cons (ga7 rfl) (fun K hK => ?stp5017_15) AllReadyH.nil))
      case stp5017_14 =>
        go_simp
        go_wp2_with fail
        refine hK.out _ _ ?hSn5018 (fun hHeld2 => ?rest5018)
        case hSn5018 => (first | with_reducible exact R0.drew | with_reducible exact (R0.alloc _).drew | with_reducible exact ((R0.alloc _).alloc _).drew | with_reducible exact hHeld.below hb4 | with_reducible exact hHeld.alloc _ | with_reducible exact hHeld.far2 (by simp only [Off]; repeat' (first | exact trivial | refine And.intro ?_ ?_ | omega)) (by omega) _ _ | with_reducible exact K4.alloc _ | with_reducible exact (K4.alloc _).alloc _ | with_reducible exact (K4.far2 (by simp only [Off]; repeat' (first | exact trivial | refine And.intro ?_ ?_ | omega)) (by omega) _ _).alloc _ | with_reducible exact (K4.alloc _).far2 (by simp only [Off]; repeat' (first | exact trivial | refine And.intro ?_ ?_ | omega)) (by omega) _ _ | with_reducible exact K4.far2 (by simp only [Off]; repeat' (first | exact trivial | refine And.intro ?_ ?_ | omega)) (by omega) _ _ | with_reducible exact ((K4.alloc _).alloc _).far2 (by simp only [Off]; repeat' (first | exact trivial | refine And.intro ?_ ?_ | omega)) (by omega) _ _)
        clear hK K hHeld
        have hHeld := hHeld2
        clear hHeld2
        try simp only [Act.put, sa7, sb7, sc7]
        refine wpAnyH_ready (rs := [15]) (by kernel_rfl) (by simp) ?rdy5019
        refine (AllReadyH.cons (ga7 rfl) (fun K hK => ?stp5019_15) AllReadyH.nil)
        case stp5019_15 =>
          go_simp
          go_wp2_with fail
          refine hK.out _ _ ?hSn5020 (fun hHeld2 => ?rest5020)
          case hSn5020 => (first | with_reducible exact R0.drew | with_reducible exact (R0.alloc _).drew | with_reducible exact ((R0.alloc _).alloc _).drew | with_reducible exact hHeld.below hb4 | with_reducible exact hHeld.alloc _ | with_reducible exact hHeld.far2 (by simp only [Off]; repeat' (first | exact trivial | refine And.intro ?_ ?_ | omega)) (by omega) _ _ | with_reducible exact K4.alloc _ | with_reducible exact (K4.alloc _).alloc _ | with_reducible exact (K4.far2 (by simp only [Off]; repeat' (first | exact trivial | refine And.intro ?_ ?_ | omega)) (by omega) _ _).alloc _ | with_reducible exact (K4.alloc _).far2 (by simp only [Off]; repeat' (first | exact trivial | refine And.intro ?_ ?_ | omega)) (by omega) _ _ | with_reducible exact K4.far2 (by simp only [Off]; repeat' (first | exact trivial | refine And.intro ?_ ?_ | omega)) (by omega) _ _ | with_reducible exact ((K4.alloc _).alloc _).far2 (by simp only [Off]; repeat' (first | exact trivial | refine And.intro ?_ ?_ | omega)) (by omega) _ _)
          clear hK K hHeld
          have hHeld := hHeld2
          clear hHeld2
          try simp only [Act.put, sa7, sb7, sc7]
          refine wpAnyH_ready (rs := [16]) (by kernel_rfl) (by simp) ?rdy5021
          refine (AllReadyH.cons (ga7 rfl) (fun K hK => ?stp5021_16) AllReadyH.nil)
          case stp5021_16 =>
            go_simp
            go_wp2_with fail
            refine hK.out _ _ ?hSn5022 (fun hHeld2 => ?rest5022)
            case hSn5022 => (first | with_reducible exact R0.drew | with_reducible exact (R0.alloc _).drew | with_reducible exact ((R0.alloc _).alloc _).drew | with_reducible exact hHeld.below hb4 | with_reducible exact hHeld.alloc _ | with_reducible exact hHeld.far2 (by simp only [Off]; repeat' (first | exact trivial | refine And.intro ?_ ?_ | omega)) (by omega) _ _ | with_reducible exact K4.alloc _ | with_reducible exact (K4.alloc _).alloc _ | with_reducible exact (K4.far2 (by simp only [Off]; repeat' (first | exact trivial | refine And.intro ?_ ?_ | omega)) (by omega) _ _).alloc _ | with_reducible exact (K4.alloc _).far2 (by simp only [Off]; repeat' (first | exact trivial | refine And.intro ?_ ?_ | omega)) (by omega) _ _ | with_reducible exact K4.far2 (by simp only [Off]; repeat' (first | exact trivial | refine And.intro ?_ ?_ | omega)) (by omega) _ _ | with_reducible exact ((K4.alloc _).alloc _).far2 (by simp only [Off]; repeat' (first | exact trivial | refine And.intro ?_ ?_ | omega)) (by omega) _ _)
            clear hK K hHeld
            have hHeld := hHeld2
            clear hHeld2
            try simp only [Act.put, sa7, sb7, sc7]
            refine wpAnyH_ready (rs := [17]) (by kernel_rfl) (by simp) ?rdy5023
            refine (AllReadyH.cons (ga7 rfl) (fun K hK => ?stp5023_17) AllReadyH.nil)
            case stp5023_17 =>
              go_simp
              go_wp2_with fail
              refine hK.out _ _ ?hSn5024 (fun hHeld2 => ?rest5024)
              case hSn5024 => (first | with_reducible exact R0.drew | with_reducible exact (R0.alloc _).drew | with_reducible exact ((R0.alloc _).alloc _).drew | with_reducible exact hHeld.below hb4 | with_reducible exact hHeld.alloc _ | with_reducible exact hHeld.far2 (by simp only [Off]; repeat' (first | exact trivial | refine And.intro ?_ ?_ | omega)) (by omega) _ _ | with_reducible exact K4.alloc _ | with_reducible exact (K4.alloc _).alloc _ | with_reducible exact (K4.far2 (by simp only [Off]; repeat' (first | exact trivial | refine And.intro ?_ ?_ | omega)) (by omega) _ _).alloc _ | with_reducible exact (K4.alloc _).far2 (by simp only [Off]; repeat' (first | exact trivial | refine And.intro ?_ ?_ | omega)) (by omega) _ _ | with_reducible exact K4.far2 (by simp only [Off]; repeat' (first | exact trivial | refine And.intro ?_ ?_ | omega)) (by omega) _ _ | with_reducible exact ((K4.alloc _).alloc _).far2 (by simp only [Off]; repeat' (first | exact trivial | refine And.intro ?_ ?_ | omega)) (by omega) _ _)
              clear hK K hHeld
              have hHeld := hHeld2
              clear hHeld2
              try simp only [Act.put, sa7, sb7, sc7]
              refine wtk7 (i := 18) (v := ?v5025) (ga7 rfl) (by kernel_rfl) (fun _ _ _ h => h) ⟨by rfl, ?hy5025⟩ (by assumption) ?rest5025
              case hy5025 => (intro wq hSw; (try simp only [Two, Kn, Facts, CellsAt] at hSw); go_simp; try with_reducible rfl)
              try simp only [Act.put, sa7, sb7, sc7]
              refine wpAnyH_done (by kernel_rfl) ?_ _
              go_wp2_with fail
              go_meet
              case rel => exact ⟨_, _, rfl, rfl, rfl, (by (repeat (first | with_reducible exact Blk.new _ _ _ | with_reducible exact Blk.newB7 _ _ _ _ | with_reducible exact Blk.newsB7 _ _ _ _ _ _ _ | with_reducible exact U4 | with_reducible exact V4 | with_reducible refine Blk.put2 (x := .int .u64 0) (y := .int .u64 0) ?_ _ _ | with_reducible refine Blk.far2 ?_ (by omega) _ _ | with_reducible refine Blk.alloc ?_ _))), (by (repeat (first | with_reducible exact Blk.new _ _ _ | with_reducible exact Blk.newB7 _ _ _ _ | with_reducible exact Blk.newsB7 _ _ _ _ _ _ _ | with_reducible exact U4 | with_reducible exact V4 | with_reducible refine Blk.put2 (x := .int .u64 0) (y := .int .u64 0) ?_ _ _ | with_reducible refine Blk.far2 ?_ (by omega) _ _ | with_reducible refine Blk.alloc ?_ _))), hHeld⟩
      case stp5017_15 =>
        go_simp
        go_wp2_with fail
        refine hK.out _ _ ?hSn5026 (fun hHeld2 => ?rest5026)
        case hSn5026 => (first | with_reducible exact R0.drew | with_reducible exact (R0.alloc _).drew | with_reducible exact ((R0.alloc _).alloc _).drew | with_reducible exact hHeld.below hb4 | with_reducible exact hHeld.alloc _ | with_reducible exact hHeld.far2 (by simp only [Off]; repeat' (first | exact trivial | refine And.intro ?_ ?_ | omega)) (by omega) _ _ | with_reducible exact K4.alloc _ | with_reducible exact (K4.alloc _).alloc _ | with_reducible exact (K4.far2 (by simp only [Off]; repeat' (first | exact trivial | refine And.intro ?_ ?_ | omega)) (by omega) _ _).alloc _ | with_reducible exact (K4.alloc _).far2 (by simp only [Off]; repeat' (first | exact trivial | refine And.intro ?_ ?_ | omega)) (by omega) _ _ | with_reducible exact K4.far2 (by simp only [Off]; repeat' (first | exact trivial | refine And.intro ?_ ?_ | omega)) (by omega) _ _ | with_reducible exact ((K4.alloc _).alloc _).far2 (by simp only [Off]; repeat' (first | exact trivial | refine And.intro ?_ ?_ | omega)) (by omega) _ _)
        clear hK K hHeld
        have hHeld := hHeld2
        clear hHeld2
        try simp only [Act.put, sa7, sb7, sc7]
        refine wpAnyH_ready (rs := [14]) (by kernel_rfl) (by simp) ?rdy5027
        refine (AllReadyH.cons (ga7 rfl) (fun K hK => ?stp5027_14) AllReadyH.nil)
        case stp5027_14 =>
          go_simp
          go_wp2_with fail
          refine hK.out _ _ ?hSn5028 (fun hHeld2 => ?rest5028)
          case hSn5028 => (first | with_reducible exact R0.drew | with_reducible exact (R0.alloc _).drew | with_reducible exact ((R0.alloc _).alloc _).drew | with_reducible exact hHeld.below hb4 | with_reducible exact hHeld.alloc _ | with_reducible exact hHeld.far2 (by simp only [Off]; repeat' (first | exact trivial | refine And.intro ?_ ?_ | omega)) (by omega) _ _ | with_reducible exact K4.alloc _ | with_reducible exact (K4.alloc _).alloc _ | with_reducible exact (K4.far2 (by simp only [Off]; repeat' (first | exact trivial | refine And.intro ?_ ?_ | omega)) (by omega) _ _).alloc _ | with_reducible exact (K4.alloc _).far2 (by simp only [Off]; repeat' (first | exact trivial | refine And.intro ?_ ?_ | omega)) (by omega) _ _ | with_reducible exact K4.far2 (by simp only [Off]; repeat' (first | exact trivial | refine And.intro ?_ ?_ | omega)) (by omega) _ _ | with_reducible exact ((K4.alloc _).alloc _).far2 (by simp only [Off]; repeat' (first | exact trivial | refine And.intro ?_ ?_ | omega)) (by omega) _ _)
          clear hK K hHeld
          have hHeld := hHeld2
          clear hHeld2
          try simp only [Act.put, sa7, sb7, sc7]
          refine wpAnyH_ready (rs := [16]) (by kernel_rfl) (by simp) ?rdy5029
          refine (AllReadyH.cons (ga7 rfl) (fun K hK => ?stp5029_16) AllReadyH.nil)
          case stp5029_16 =>
            go_simp
            go_wp2_with fail
            refine hK.out _ _ ?hSn5030 (fun hHeld2 => ?rest5030)
            case hSn5030 => (first | with_reducible exact R0.drew | with_reducible exact (R0.alloc _).drew | with_reducible exact ((R0.alloc _).alloc _).drew | with_reducible exact hHeld.below hb4 | with_reducible exact hHeld.alloc _ | with_reducible exact hHeld.far2 (by simp only [Off]; repeat' (first | exact trivial | refine And.intro ?_ ?_ | omega)) (by omega) _ _ | with_reducible exact K4.alloc _ | with_reducible exact (K4.alloc _).alloc _ | with_reducible exact (K4.far2 (by simp only [Off]; repeat' (first | exact trivial | refine And.intro ?_ ?_ | omega)) (by omega) _ _).alloc _ | with_reducible exact (K4.alloc _).far2 (by simp only [Off]; repeat' (first | exact trivial | refine And.intro ?_ ?_ | omega)) (by omega) _ _ | with_reducible exact K4.far2 (by simp only [Off]; repeat' (first | exact trivial | refine And.intro ?_ ?_ | omega)) (by omega) _ _ | with_reducible exact ((K4.alloc _).alloc _).far2 (by simp only [Off]; repeat' (first | exact trivial | refine And.intro ?_ ?_ | omega)) (by omega) _ _)
            clear hK K hHeld
            have hHeld := hHeld2
            clear hHeld2
            try simp only [Act.put, sa7, sb7, sc7]
            refine wpAnyH_ready (rs := [17]) (by kernel_rfl) (by simp) ?rdy5031
            refine (AllReadyH.cons (ga7 rfl) (fun K hK => ?stp5031_17) AllReadyH.nil)
            case stp5031_17 =>
              go_simp
              go_wp2_with fail
              refine hK.out _ _ ?hSn5032 (fun hHeld2 => ?rest5032)
              case hSn5032 => (first | with_reducible exact R0.drew | with_reducible exact (R0.alloc _).drew | with_reducible exact ((R0.alloc _).alloc _).drew | with_reducible exact hHeld.below hb4 | with_reducible exact hHeld.alloc _ | with_reducible exact hHeld.far2 (by simp only [Off]; repeat' (first | exact trivial | refine And.intro ?_ ?_ | omega)) (by omega) _ _ | with_reducible exact K4.alloc _ | with_reducible exact (K4.alloc _).alloc _ | with_reducible exact (K4.far2 (by simp only [Off]; repeat' (first | exact trivial | refine And.intro ?_ ?_ | omega)) (by omega) _ _).alloc _ | with_reducible exact (K4.alloc _).far2 (by simp only [Off]; repeat' (first | exact trivial | refine And.intro ?_ ?_ | omega)) (by omega) _ _ | with_reducible exact K4.far2 (by simp only [Off]; repeat' (first | exact trivial | refine And.intro ?_ ?_ | omega)) (by omega) _ _ | with_reducible exact ((K4.alloc _).alloc _).far2 (by simp only [Off]; repeat' (first | exact trivial | refine And.intro ?_ ?_ | omega)) (by omega) _ _)
              clear hK K hHeld
              have hHeld := hHeld2
              clear hHeld2
              try simp only [Act.put, sa7, sb7, sc7]
              refine wtk7 (i := 18) (v := ?v5033) (ga7 rfl) (by kernel_rfl) (fun _ _ _ h => h) ⟨by rfl, ?hy5033⟩ (by assumption) ?rest5033
              case hy5033 => (intro wq hSw; (try simp only [Two, Kn, Facts, CellsAt] at hSw); go_simp; try with_reducible rfl)
              try simp only [Act.put, sa7, sb7, sc7]
              refine wpAnyH_done (by kernel_rfl) ?_ _
              go_wp2_with fail
              go_meet
              case rel => exact ⟨_, _, rfl, rfl, rfl, (by (repeat (first | with_reducible exact Blk.new _ _ _ | with_reducible exact Blk.newB7 _ _ _ _ | with_reducible exact Blk.newsB7 _ _ _ _ _ _ _ | with_reducible exact U4 | with_reducible exact V4 | with_reducible refine Blk.put2 (x := .int .u64 0) (y := .int .u64 0) ?_ _ _ | with_reducible refine Blk.far2 ?_ (by omega) _ _ | with_reducible refine Blk.alloc ?_ _))), (by (repeat (first | with_reducible exact Blk.new _ _ _ | with_reducible exact Blk.newB7 _ _ _ _ | with_reducible exact Blk.newsB7 _ _ _ _ _ _ _ | with_reducible exact U4 | with_reducible exact V4 | with_reducible refine Blk.put2 (x := .int .u64 0) (y := .int .u64 0) ?_ _ _ | with_reducible refine Blk.far2 ?_ (by omega) _ _ | with_reducible refine Blk.alloc ?_ _))), hHeld⟩
    case stp5011_14 =>
      go_simp
      go_wp2_with fail
      refine hK.out _ _ ?hSn5034 (fun hHeld2 => ?rest5034)
      case hSn5034 => (first | with_reducible exact R0.drew | with_reducible exact (R0.alloc _).drew | with_reducible exact ((R0.alloc _).alloc _).drew | with_reducible exact hHeld.below hb4 | with_reducible exact hHeld.alloc _ | with_reducible exact hHeld.far2 (by simp only [Off]; repeat' (first | exact trivial | refine And.intro ?_ ?_ | omega)) (by omega) _ _ | with_reducible exact K4.alloc _ | with_reducible exact (K4.alloc _).alloc _ | with_reducible exact (K4.far2 (by simp only [Off]; repeat' (first | exact trivial | refine And.intro ?_ ?_ | omega)) (by omega) _ _).alloc _ | with_reducible exact (K4.alloc _).far2 (by simp only [Off]; repeat' (first | exact trivial | refine And.intro ?_ ?_ | omega)) (by omega) _ _ | with_reducible exact K4.far2 (by simp only [Off]; repeat' (first | exact trivial | refine And.intro ?_ ?_ | omega)) (by omega) _ _ | with_reducible exact ((K4.alloc _).alloc _).far2 (by simp only [Off]; repeat' (first | exact trivial | refine And.intro ?_ ?_ | omega)) (by omega) _ _)
      clear hK K hHeld
      have hHeld := hHeld2
      clear hHeld2
      try simp only [Act.put, sa7, sb7, sc7]
      refine wpAnyH_ready (rs := [9, 15]) (by kernel_rfl) (by simp) ?rdy5035
      refine (AllReadyH.cons (ga7 rfl) (fun K hK => ?stp5035_9) (AllReadyH.cons (ga7 rfl) (fun K hK => ?stp5035_15) AllReadyH.nil))
      case stp5035_9 =>
        go_simp
        go_wp2_with fail
        (refine (SP.out _).mono ?_; rintro e w4 ⟨rfl, hb4⟩; have K4 := hHeld.below hb4; have s4 : w0.heap.size ≤ w4.heap.size := (by have := hb4.size; first | exact this | (simp at this; omega)); first | (have U4 : Blk w4 w0.heap.size #[.int .u64 0, .int .u64 0] 24 := Blk.via hb4 ((Blk.new w0 #[.int .u64 0, .int .u64 0] 24).alloc (.cells #[.int .u64 0, .int .u64 0] 24)) rfl; have V4 : Blk w4 (w0.heap.size + 1) #[.int .u64 0, .int .u64 0] 24 := Blk.via hb4 (Blk.newB7 w0 (.cells #[.int .u64 0, .int .u64 0] 24) #[.int .u64 0, .int .u64 0] 24) rfl; obtain ⟨u0, u1, u2, u3, u4⟩ := U4.two; obtain ⟨y0, y1, y2, y3, y4⟩ := V4.two) | (have U4 : Blk w4 w0.heap.size #[.int .u64 0, .int .u64 0] 24 := Blk.via hb4 (Blk.new w0 #[.int .u64 0, .int .u64 0] 24) rfl; obtain ⟨u0, u1, u2, u3, u4⟩ := U4.two) | skip)
        go_wp2_with fail
        refine hK.out _ _ ?hSn5036 (fun hHeld2 => ?rest5036)
        case hSn5036 => (first | with_reducible exact R0.drew | with_reducible exact (R0.alloc _).drew | with_reducible exact ((R0.alloc _).alloc _).drew | with_reducible exact hHeld.below hb4 | with_reducible exact hHeld.alloc _ | with_reducible exact hHeld.far2 (by simp only [Off]; repeat' (first | exact trivial | refine And.intro ?_ ?_ | omega)) (by omega) _ _ | with_reducible exact K4.alloc _ | with_reducible exact (K4.alloc _).alloc _ | with_reducible exact (K4.far2 (by simp only [Off]; repeat' (first | exact trivial | refine And.intro ?_ ?_ | omega)) (by omega) _ _).alloc _ | with_reducible exact (K4.alloc _).far2 (by simp only [Off]; repeat' (first | exact trivial | refine And.intro ?_ ?_ | omega)) (by omega) _ _ | with_reducible exact K4.far2 (by simp only [Off]; repeat' (first | exact trivial | refine And.intro ?_ ?_ | omega)) (by omega) _ _ | with_reducible exact ((K4.alloc _).alloc _).far2 (by simp only [Off]; repeat' (first | exact trivial | refine And.intro ?_ ?_ | omega)) (by omega) _ _)
        clear hK K hHeld
        have hHeld := hHeld2
        clear hHeld2
        try simp only [Act.put, sa7, sb7, sc7]
        refine wtk7 (i := 10) (v := ?v5037) (ga7 rfl) (by kernel_rfl) (fun _ _ _ h => h) ⟨by rfl, ?hy5037⟩ (by assumption) ?rest5037
        case hy5037 => (intro wq hSw; (try simp only [Two, Kn, Facts, CellsAt] at hSw); go_simp; try with_reducible rfl)
        try simp only [Act.put, sa7, sb7, sc7]
        refine wtk7 (i := 11) (v := ?v5038) (ga7 rfl) (by kernel_rfl) (fun _ _ _ h => h) ⟨by rfl, ?hy5038⟩ (by assumption) ?rest5038
        case hy5038 => (intro wq hSw; (try simp only [Two, Kn, Facts, CellsAt] at hSw); go_simp; try with_reducible rfl)
        try simp only [Act.put, sa7, sb7, sc7]
        refine wtk7 (i := 12) (v := ?v5039) (ga7 rfl) (by kernel_rfl) (fun _ _ _ h => h) ⟨by rfl, ?hy5039⟩ (by assumption) ?rest5039
        case hy5039 => (intro wq hSw; (try simp only [Two, Kn, Facts, CellsAt] at hSw); go_simp; try with_reducible rfl)
        try simp only [Act.put, sa7, sb7, sc7]
        refine wtk7 (i := 13) (v := ?v5040) (ga7 rfl) (by kernel_rfl) (fun _ _ _ h => h) ⟨by rfl, ?hy5040⟩ (by assumption) ?rest5040
        case hy5040 => (intro wq hSw; (try simp only [Two, Kn, Facts, CellsAt] at hSw); go_simp; try with_reducible rfl)
        try simp only [Act.put, sa7, sb7, sc7]
        refine wpAnyH_ready (rs := [15]) (by kernel_rfl) (by simp) ?rdy5041
        refine (AllReadyH.cons (ga7 rfl) (fun K hK => ?stp5041_15) AllReadyH.nil)
        case stp5041_15 =>
          go_simp
          go_wp2_with fail
          refine hK.out _ _ ?hSn5042 (fun hHeld2 => ?rest5042)
          case hSn5042 => (first | with_reducible exact R0.drew | with_reducible exact (R0.alloc _).drew | with_reducible exact ((R0.alloc _).alloc _).drew | with_reducible exact hHeld.below hb4 | with_reducible exact hHeld.alloc _ | with_reducible exact hHeld.far2 (by simp only [Off]; repeat' (first | exact trivial | refine And.intro ?_ ?_ | omega)) (by omega) _ _ | with_reducible exact K4.alloc _ | with_reducible exact (K4.alloc _).alloc _ | with_reducible exact (K4.far2 (by simp only [Off]; repeat' (first | exact trivial | refine And.intro ?_ ?_ | omega)) (by omega) _ _).alloc _ | with_reducible exact (K4.alloc _).far2 (by simp only [Off]; repeat' (first | exact trivial | refine And.intro ?_ ?_ | omega)) (by omega) _ _ | with_reducible exact K4.far2 (by simp only [Off]; repeat' (first | exact trivial | refine And.intro ?_ ?_ | omega)) (by omega) _ _ | with_reducible exact ((K4.alloc _).alloc _).far2 (by simp only [Off]; repeat' (first | exact trivial | refine And.intro ?_ ?_ | omega)) (by omega) _ _)
          clear hK K hHeld
          have hHeld := hHeld2
          clear hHeld2
          try simp only [Act.put, sa7, sb7, sc7]
          refine wpAnyH_ready (rs := [16]) (by kernel_rfl) (by simp) ?rdy5043
          refine (AllReadyH.cons (ga7 rfl) (fun K hK => ?stp5043_16) AllReadyH.nil)
          case stp5043_16 =>
            go_simp
            go_wp2_with fail
            refine hK.out _ _ ?hSn5044 (fun hHeld2 => ?rest5044)
            case hSn5044 => (first | with_reducible exact R0.drew | with_reducible exact (R0.alloc _).drew | with_reducible exact ((R0.alloc _).alloc _).drew | with_reducible exact hHeld.below hb4 | with_reducible exact hHeld.alloc _ | with_reducible exact hHeld.far2 (by simp only [Off]; repeat' (first | exact trivial | refine And.intro ?_ ?_ | omega)) (by omega) _ _ | with_reducible exact K4.alloc _ | with_reducible exact (K4.alloc _).alloc _ | with_reducible exact (K4.far2 (by simp only [Off]; repeat' (first | exact trivial | refine And.intro ?_ ?_ | omega)) (by omega) _ _).alloc _ | with_reducible exact (K4.alloc _).far2 (by simp only [Off]; repeat' (first | exact trivial | refine And.intro ?_ ?_ | omega)) (by omega) _ _ | with_reducible exact K4.far2 (by simp only [Off]; repeat' (first | exact trivial | refine And.intro ?_ ?_ | omega)) (by omega) _ _ | with_reducible exact ((K4.alloc _).alloc _).far2 (by simp only [Off]; repeat' (first | exact trivial | refine And.intro ?_ ?_ | omega)) (by omega) _ _)
            clear hK K hHeld
            have hHeld := hHeld2
            clear hHeld2
            try simp only [Act.put, sa7, sb7, sc7]
            refine wpAnyH_ready (rs := [17]) (by kernel_rfl) (by simp) ?rdy5045
            refine (AllReadyH.cons (ga7 rfl) (fun K hK => ?stp5045_17) AllReadyH.nil)
            case stp5045_17 =>
              go_simp
              go_wp2_with fail
              refine hK.out _ _ ?hSn5046 (fun hHeld2 => ?rest5046)
              case hSn5046 => (first | with_reducible exact R0.drew | with_reducible exact (R0.alloc _).drew | with_reducible exact ((R0.alloc _).alloc _).drew | with_reducible exact hHeld.below hb4 | with_reducible exact hHeld.alloc _ | with_reducible exact hHeld.far2 (by simp only [Off]; repeat' (first | exact trivial | refine And.intro ?_ ?_ | omega)) (by omega) _ _ | with_reducible exact K4.alloc _ | with_reducible exact (K4.alloc _).alloc _ | with_reducible exact (K4.far2 (by simp only [Off]; repeat' (first | exact trivial | refine And.intro ?_ ?_ | omega)) (by omega) _ _).alloc _ | with_reducible exact (K4.alloc _).far2 (by simp only [Off]; repeat' (first | exact trivial | refine And.intro ?_ ?_ | omega)) (by omega) _ _ | with_reducible exact K4.far2 (by simp only [Off]; repeat' (first | exact trivial | refine And.intro ?_ ?_ | omega)) (by omega) _ _ | with_reducible exact ((K4.alloc _).alloc _).far2 (by simp only [Off]; repeat' (first | exact trivial | refine And.intro ?_ ?_ | omega)) (by omega) _ _)
              clear hK K hHeld
              have hHeld := hHeld2
              clear hHeld2
              try simp only [Act.put, sa7, sb7, sc7]
              refine wtk7 (i := 18) (v := ?v5047) (ga7 rfl) (by kernel_rfl) (fun _ _ _ h => h) ⟨by rfl, ?hy5047⟩ (by assumption) ?rest5047
              case hy5047 => (intro wq hSw; (try simp only [Two, Kn, Facts, CellsAt] at hSw); go_simp; try with_reducible rfl)
              try simp only [Act.put, sa7, sb7, sc7]
              refine wpAnyH_done (by kernel_rfl) ?_ _
              go_wp2_with fail
              go_meet
              case rel => exact ⟨_, _, rfl, rfl, rfl, (by (repeat (first | with_reducible exact Blk.new _ _ _ | with_reducible exact Blk.newB7 _ _ _ _ | with_reducible exact Blk.newsB7 _ _ _ _ _ _ _ | with_reducible exact U4 | with_reducible exact V4 | with_reducible refine Blk.put2 (x := .int .u64 0) (y := .int .u64 0) ?_ _ _ | with_reducible refine Blk.far2 ?_ (by omega) _ _ | with_reducible refine Blk.alloc ?_ _))), (by (repeat (first | with_reducible exact Blk.new _ _ _ | with_reducible exact Blk.newB7 _ _ _ _ | with_reducible exact Blk.newsB7 _ _ _ _ _ _ _ | with_reducible exact U4 | with_reducible exact V4 | with_reducible refine Blk.put2 (x := .int .u64 0) (y := .int .u64 0) ?_ _ _ | with_reducible refine Blk.far2 ?_ (by omega) _ _ | with_reducible refine Blk.alloc ?_ _))), hHeld⟩
      case stp5035_15 =>
        go_simp
        go_wp2_with fail
        refine hK.out _ _ ?hSn5048 (fun hHeld2 => ?rest5048)
        case hSn5048 => (first | with_reducible exact R0.drew | with_reducible exact (R0.alloc _).drew | with_reducible exact ((R0.alloc _).alloc _).drew | with_reducible exact hHeld.below hb4 | with_reducible exact hHeld.alloc _ | with_reducible exact hHeld.far2 (by simp only [Off]; repeat' (first | exact trivial | refine And.intro ?_ ?_ | omega)) (by omega) _ _ | with_reducible exact K4.alloc _ | with_reducible exact (K4.alloc _).alloc _ | with_reducible exact (K4.far2 (by simp only [Off]; repeat' (first | exact trivial | refine And.intro ?_ ?_ | omega)) (by omega) _ _).alloc _ | with_reducible exact (K4.alloc _).far2 (by simp only [Off]; repeat' (first | exact trivial | refine And.intro ?_ ?_ | omega)) (by omega) _ _ | with_reducible exact K4.far2 (by simp only [Off]; repeat' (first | exact trivial | refine And.intro ?_ ?_ | omega)) (by omega) _ _ | with_reducible exact ((K4.alloc _).alloc _).far2 (by simp only [Off]; repeat' (first | exact trivial | refine And.intro ?_ ?_ | omega)) (by omega) _ _)
        clear hK K hHeld
        have hHeld := hHeld2
        clear hHeld2
        try simp only [Act.put, sa7, sb7, sc7]
        refine wpAnyH_ready (rs := [9]) (by kernel_rfl) (by simp) ?rdy5049
        refine (AllReadyH.cons (ga7 rfl) (fun K hK => ?stp5049_9) AllReadyH.nil)
        case stp5049_9 =>
          go_simp
          go_wp2_with fail
          (refine (SP.out _).mono ?_; rintro e w4 ⟨rfl, hb4⟩; have K4 := hHeld.below hb4; have s4 : w0.heap.size ≤ w4.heap.size := (by have := hb4.size; first | exact this | (simp at this; omega)); first | (have U4 : Blk w4 w0.heap.size #[.int .u64 0, .int .u64 0] 24 := Blk.via hb4 ((Blk.new w0 #[.int .u64 0, .int .u64 0] 24).alloc (.cells #[.int .u64 0, .int .u64 0] 24)) rfl; have V4 : Blk w4 (w0.heap.size + 1) #[.int .u64 0, .int .u64 0] 24 := Blk.via hb4 (Blk.newB7 w0 (.cells #[.int .u64 0, .int .u64 0] 24) #[.int .u64 0, .int .u64 0] 24) rfl; obtain ⟨u0, u1, u2, u3, u4⟩ := U4.two; obtain ⟨y0, y1, y2, y3, y4⟩ := V4.two) | (have U4 : Blk w4 w0.heap.size #[.int .u64 0, .int .u64 0] 24 := Blk.via hb4 (Blk.new w0 #[.int .u64 0, .int .u64 0] 24) rfl; obtain ⟨u0, u1, u2, u3, u4⟩ := U4.two) | skip)
          go_wp2_with fail
          refine hK.out _ _ ?hSn5050 (fun hHeld2 => ?rest5050)
          case hSn5050 => (first | with_reducible exact R0.drew | with_reducible exact (R0.alloc _).drew | with_reducible exact ((R0.alloc _).alloc _).drew | with_reducible exact hHeld.below hb4 | with_reducible exact hHeld.alloc _ | with_reducible exact hHeld.far2 (by simp only [Off]; repeat' (first | exact trivial | refine And.intro ?_ ?_ | omega)) (by omega) _ _ | with_reducible exact K4.alloc _ | with_reducible exact (K4.alloc _).alloc _ | with_reducible exact (K4.far2 (by simp only [Off]; repeat' (first | exact trivial | refine And.intro ?_ ?_ | omega)) (by omega) _ _).alloc _ | with_reducible exact (K4.alloc _).far2 (by simp only [Off]; repeat' (first | exact trivial | refine And.intro ?_ ?_ | omega)) (by omega) _ _ | with_reducible exact K4.far2 (by simp only [Off]; repeat' (first | exact trivial | refine And.intro ?_ ?_ | omega)) (by omega) _ _ | with_reducible exact ((K4.alloc _).alloc _).far2 (by simp only [Off]; repeat' (first | exact trivial | refine And.intro ?_ ?_ | omega)) (by omega) _ _)
          clear hK K hHeld
          have hHeld := hHeld2
          clear hHeld2
          try simp only [Act.put, sa7, sb7, sc7]
          refine wtk7 (i := 10) (v := ?v5051) (ga7 rfl) (by kernel_rfl) (fun _ _ _ h => h) ⟨by rfl, ?hy5051⟩ (by assumption) ?rest5051
          case hy5051 => (intro wq hSw; (try simp only [Two, Kn, Facts, CellsAt] at hSw); go_simp; try with_reducible rfl)
          try simp only [Act.put, sa7, sb7, sc7]
          refine wtk7 (i := 11) (v := ?v5052) (ga7 rfl) (by kernel_rfl) (fun _ _ _ h => h) ⟨by rfl, ?hy5052⟩ (by assumption) ?rest5052
          case hy5052 => (intro wq hSw; (try simp only [Two, Kn, Facts, CellsAt] at hSw); go_simp; try with_reducible rfl)
          try simp only [Act.put, sa7, sb7, sc7]
          refine wtk7 (i := 12) (v := ?v5053) (ga7 rfl) (by kernel_rfl) (fun _ _ _ h => h) ⟨by rfl, ?hy5053⟩ (by assumption) ?rest5053
          case hy5053 => (intro wq hSw; (try simp only [Two, Kn, Facts, CellsAt] at hSw); go_simp; try with_reducible rfl)
          try simp only [Act.put, sa7, sb7, sc7]
          refine wtk7 (i := 13) (v := ?v5054) (ga7 rfl) (by kernel_rfl) (fun _ _ _ h => h) ⟨by rfl, ?hy5054⟩ (by assumption) ?rest5054
          case hy5054 => (intro wq hSw; (try simp only [Two, Kn, Facts, CellsAt] at hSw); go_simp; try with_reducible rfl)
          try simp only [Act.put, sa7, sb7, sc7]
          refine wpAnyH_ready (rs := [16]) (by kernel_rfl) (by simp) ?rdy5055
          refine (AllReadyH.cons (ga7 rfl) (fun K hK => ?stp5055_16) AllReadyH.nil)
          case stp5055_16 =>
            go_simp
            go_wp2_with fail
            refine hK.out _ _ ?hSn5056 (fun hHeld2 => ?rest5056)
            case hSn5056 => (first | with_reducible exact R0.drew | with_reducible exact (R0.alloc _).drew | with_reducible exact ((R0.alloc _).alloc _).drew | with_reducible exact hHeld.below hb4 | with_reducible exact hHeld.alloc _ | with_reducible exact hHeld.far2 (by simp only [Off]; repeat' (first | exact trivial | refine And.intro ?_ ?_ | omega)) (by omega) _ _ | with_reducible exact K4.alloc _ | with_reducible exact (K4.alloc _).alloc _ | with_reducible exact (K4.far2 (by simp only [Off]; repeat' (first | exact trivial | refine And.intro ?_ ?_ | omega)) (by omega) _ _).alloc _ | with_reducible exact (K4.alloc _).far2 (by simp only [Off]; repeat' (first | exact trivial | refine And.intro ?_ ?_ | omega)) (by omega) _ _ | with_reducible exact K4.far2 (by simp only [Off]; repeat' (first | exact trivial | refine And.intro ?_ ?_ | omega)) (by omega) _ _ | with_reducible exact ((K4.alloc _).alloc _).far2 (by simp only [Off]; repeat' (first | exact trivial | refine And.intro ?_ ?_ | omega)) (by omega) _ _)
            clear hK K hHeld
            have hHeld := hHeld2
            clear hHeld2
            try simp only [Act.put, sa7, sb7, sc7]
            refine wpAnyH_ready (rs := [17]) (by kernel_rfl) (by simp) ?rdy5057
            refine (AllReadyH.cons (ga7 rfl) (fun K hK => ?stp5057_17) AllReadyH.nil)
            case stp5057_17 =>
              go_simp
              go_wp2_with fail
              refine hK.out _ _ ?hSn5058 (fun hHeld2 => ?rest5058)
              case hSn5058 => (first | with_reducible exact R0.drew | with_reducible exact (R0.alloc _).drew | with_reducible exact ((R0.alloc _).alloc _).drew | with_reducible exact hHeld.below hb4 | with_reducible exact hHeld.alloc _ | with_reducible exact hHeld.far2 (by simp only [Off]; repeat' (first | exact trivial | refine And.intro ?_ ?_ | omega)) (by omega) _ _ | with_reducible exact K4.alloc _ | with_reducible exact (K4.alloc _).alloc _ | with_reducible exact (K4.far2 (by simp only [Off]; repeat' (first | exact trivial | refine And.intro ?_ ?_ | omega)) (by omega) _ _).alloc _ | with_reducible exact (K4.alloc _).far2 (by simp only [Off]; repeat' (first | exact trivial | refine And.intro ?_ ?_ | omega)) (by omega) _ _ | with_reducible exact K4.far2 (by simp only [Off]; repeat' (first | exact trivial | refine And.intro ?_ ?_ | omega)) (by omega) _ _ | with_reducible exact ((K4.alloc _).alloc _).far2 (by simp only [Off]; repeat' (first | exact trivial | refine And.intro ?_ ?_ | omega)) (by omega) _ _)
              clear hK K hHeld
              have hHeld := hHeld2
              clear hHeld2
              try simp only [Act.put, sa7, sb7, sc7]
              refine wtk7 (i := 18) (v := ?v5059) (ga7 rfl) (by kernel_rfl) (fun _ _ _ h => h) ⟨by rfl, ?hy5059⟩ (by assumption) ?rest5059
              case hy5059 => (intro wq hSw; (try simp only [Two, Kn, Facts, CellsAt] at hSw); go_simp; try with_reducible rfl)
              try simp only [Act.put, sa7, sb7, sc7]
              refine wpAnyH_done (by kernel_rfl) ?_ _
              go_wp2_with fail
              go_meet
              case rel => exact ⟨_, _, rfl, rfl, rfl, (by (repeat (first | with_reducible exact Blk.new _ _ _ | with_reducible exact Blk.newB7 _ _ _ _ | with_reducible exact Blk.newsB7 _ _ _ _ _ _ _ | with_reducible exact U4 | with_reducible exact V4 | with_reducible refine Blk.put2 (x := .int .u64 0) (y := .int .u64 0) ?_ _ _ | with_reducible refine Blk.far2 ?_ (by omega) _ _ | with_reducible refine Blk.alloc ?_ _))), (by (repeat (first | with_reducible exact Blk.new _ _ _ | with_reducible exact Blk.newB7 _ _ _ _ | with_reducible exact Blk.newsB7 _ _ _ _ _ _ _ | with_reducible exact U4 | with_reducible exact V4 | with_reducible refine Blk.put2 (x := .int .u64 0) (y := .int .u64 0) ?_ _ _ | with_reducible refine Blk.far2 ?_ (by omega) _ _ | with_reducible refine Blk.alloc ?_ _))), hHeld⟩
    case stp5011_15 =>
      go_simp
      go_wp2_with fail
      refine hK.out _ _ ?hSn5060 (fun hHeld2 => ?rest5060)
      case hSn5060 => (first | with_reducible exact R0.drew | with_reducible exact (R0.alloc _).drew | with_reducible exact ((R0.alloc _).alloc _).drew | with_reducible exact hHeld.below hb4 | with_reducible exact hHeld.alloc _ | with_reducible exact hHeld.far2 (by simp only [Off]; repeat' (first | exact trivial | refine And.intro ?_ ?_ | omega)) (by omega) _ _ | with_reducible exact K4.alloc _ | with_reducible exact (K4.alloc _).alloc _ | with_reducible exact (K4.far2 (by simp only [Off]; repeat' (first | exact trivial | refine And.intro ?_ ?_ | omega)) (by omega) _ _).alloc _ | with_reducible exact (K4.alloc _).far2 (by simp only [Off]; repeat' (first | exact trivial | refine And.intro ?_ ?_ | omega)) (by omega) _ _ | with_reducible exact K4.far2 (by simp only [Off]; repeat' (first | exact trivial | refine And.intro ?_ ?_ | omega)) (by omega) _ _ | with_reducible exact ((K4.alloc _).alloc _).far2 (by simp only [Off]; repeat' (first | exact trivial | refine And.intro ?_ ?_ | omega)) (by omega) _ _)
      clear hK K hHeld
      have hHeld := hHeld2
      clear hHeld2
      try simp only [Act.put, sa7, sb7, sc7]
      refine wpAnyH_ready (rs := [9, 14]) (by kernel_rfl) (by simp) ?rdy5061
      refine (AllReadyH.cons (ga7 rfl) (fun K hK => ?stp5061_9) (AllReadyH.cons (ga7 rfl) (fun K hK => ?stp5061_14) AllReadyH.nil))
      case stp5061_9 =>
        go_simp
        go_wp2_with fail
        (refine (SP.out _).mono ?_; rintro e w4 ⟨rfl, hb4⟩; have K4 := hHeld.below hb4; have s4 : w0.heap.size ≤ w4.heap.size := (by have := hb4.size; first | exact this | (simp at this; omega)); first | (have U4 : Blk w4 w0.heap.size #[.int .u64 0, .int .u64 0] 24 := Blk.via hb4 ((Blk.new w0 #[.int .u64 0, .int .u64 0] 24).alloc (.cells #[.int .u64 0, .int .u64 0] 24)) rfl; have V4 : Blk w4 (w0.heap.size + 1) #[.int .u64 0, .int .u64 0] 24 := Blk.via hb4 (Blk.newB7 w0 (.cells #[.int .u64 0, .int .u64 0] 24) #[.int .u64 0, .int .u64 0] 24) rfl; obtain ⟨u0, u1, u2, u3, u4⟩ := U4.two; obtain ⟨y0, y1, y2, y3, y4⟩ := V4.two) | (have U4 : Blk w4 w0.heap.size #[.int .u64 0, .int .u64 0] 24 := Blk.via hb4 (Blk.new w0 #[.int .u64 0, .int .u64 0] 24) rfl; obtain ⟨u0, u1, u2, u3, u4⟩ := U4.two) | skip)
        go_wp2_with fail
        refine hK.out _ _ ?hSn5062 (fun hHeld2 => ?rest5062)
        case hSn5062 => (first | with_reducible exact R0.drew | with_reducible exact (R0.alloc _).drew | with_reducible exact ((R0.alloc _).alloc _).drew | with_reducible exact hHeld.below hb4 | with_reducible exact hHeld.alloc _ | with_reducible exact hHeld.far2 (by simp only [Off]; repeat' (first | exact trivial | refine And.intro ?_ ?_ | omega)) (by omega) _ _ | with_reducible exact K4.alloc _ | with_reducible exact (K4.alloc _).alloc _ | with_reducible exact (K4.far2 (by simp only [Off]; repeat' (first | exact trivial | refine And.intro ?_ ?_ | omega)) (by omega) _ _).alloc _ | with_reducible exact (K4.alloc _).far2 (by simp only [Off]; repeat' (first | exact trivial | refine And.intro ?_ ?_ | omega)) (by omega) _ _ | with_reducible exact K4.far2 (by simp only [Off]; repeat' (first | exact trivial | refine And.intro ?_ ?_ | omega)) (by omega) _ _ | with_reducible exact ((K4.alloc _).alloc _).far2 (by simp only [Off]; repeat' (first | exact trivial | refine And.intro ?_ ?_ | omega)) (by omega) _ _)
        clear hK K hHeld
        have hHeld := hHeld2
        clear hHeld2
        try simp only [Act.put, sa7, sb7, sc7]
        refine wtk7 (i := 10) (v := ?v5063) (ga7 rfl) (by kernel_rfl) (fun _ _ _ h => h) ⟨by rfl, ?hy5063⟩ (by assumption) ?rest5063
        case hy5063 => (intro wq hSw; (try simp only [Two, Kn, Facts, CellsAt] at hSw); go_simp; try with_reducible rfl)
        try simp only [Act.put, sa7, sb7, sc7]
        refine wtk7 (i := 11) (v := ?v5064) (ga7 rfl) (by kernel_rfl) (fun _ _ _ h => h) ⟨by rfl, ?hy5064⟩ (by assumption) ?rest5064
        case hy5064 => (intro wq hSw; (try simp only [Two, Kn, Facts, CellsAt] at hSw); go_simp; try with_reducible rfl)
        try simp only [Act.put, sa7, sb7, sc7]
        refine wtk7 (i := 12) (v := ?v5065) (ga7 rfl) (by kernel_rfl) (fun _ _ _ h => h) ⟨by rfl, ?hy5065⟩ (by assumption) ?rest5065
        case hy5065 => (intro wq hSw; (try simp only [Two, Kn, Facts, CellsAt] at hSw); go_simp; try with_reducible rfl)
        try simp only [Act.put, sa7, sb7, sc7]
        refine wtk7 (i := 13) (v := ?v5066) (ga7 rfl) (by kernel_rfl) (fun _ _ _ h => h) ⟨by rfl, ?hy5066⟩ (by assumption) ?rest5066
        case hy5066 => (intro wq hSw; (try simp only [Two, Kn, Facts, CellsAt] at hSw); go_simp; try with_reducible rfl)
        try simp only [Act.put, sa7, sb7, sc7]
        refine wpAnyH_ready (rs := [14]) (by kernel_rfl) (by simp) ?rdy5067
        refine (AllReadyH.cons (ga7 rfl) (fun K hK => ?stp5067_14) AllReadyH.nil)
        case stp5067_14 =>
          go_simp
          go_wp2_with fail
          refine hK.out _ _ ?hSn5068 (fun hHeld2 => ?rest5068)
          case hSn5068 => (first | with_reducible exact R0.drew | with_reducible exact (R0.alloc _).drew | with_reducible exact ((R0.alloc _).alloc _).drew | with_reducible exact hHeld.below hb4 | with_reducible exact hHeld.alloc _ | with_reducible exact hHeld.far2 (by simp only [Off]; repeat' (first | exact trivial | refine And.intro ?_ ?_ | omega)) (by omega) _ _ | with_reducible exact K4.alloc _ | with_reducible exact (K4.alloc _).alloc _ | with_reducible exact (K4.far2 (by simp only [Off]; repeat' (first | exact trivial | refine And.intro ?_ ?_ | omega)) (by omega) _ _).alloc _ | with_reducible exact (K4.alloc _).far2 (by simp only [Off]; repeat' (first | exact trivial | refine And.intro ?_ ?_ | omega)) (by omega) _ _ | with_reducible exact K4.far2 (by simp only [Off]; repeat' (first | exact trivial | refine And.intro ?_ ?_ | omega)) (by omega) _ _ | with_reducible exact ((K4.alloc _).alloc _).far2 (by simp only [Off]; repeat' (first | exact trivial | refine And.intro ?_ ?_ | omega)) (by omega) _ _)
          clear hK K hHeld
          have hHeld := hHeld2
          clear hHeld2
          try simp only [Act.put, sa7, sb7, sc7]
          refine wpAnyH_ready (rs := [16]) (by kernel_rfl) (by simp) ?rdy5069
          refine (AllReadyH.cons (ga7 rfl) (fun K hK => ?stp5069_16) AllReadyH.nil)
          case stp5069_16 =>
            go_simp
            go_wp2_with fail
            refine hK.out _ _ ?hSn5070 (fun hHeld2 => ?rest5070)
            case hSn5070 => (first | with_reducible exact R0.drew | with_reducible exact (R0.alloc _).drew | with_reducible exact ((R0.alloc _).alloc _).drew | with_reducible exact hHeld.below hb4 | with_reducible exact hHeld.alloc _ | with_reducible exact hHeld.far2 (by simp only [Off]; repeat' (first | exact trivial | refine And.intro ?_ ?_ | omega)) (by omega) _ _ | with_reducible exact K4.alloc _ | with_reducible exact (K4.alloc _).alloc _ | with_reducible exact (K4.far2 (by simp only [Off]; repeat' (first | exact trivial | refine And.intro ?_ ?_ | omega)) (by omega) _ _).alloc _ | with_reducible exact (K4.alloc _).far2 (by simp only [Off]; repeat' (first | exact trivial | refine And.intro ?_ ?_ | omega)) (by omega) _ _ | with_reducible exact K4.far2 (by simp only [Off]; repeat' (first | exact trivial | refine And.intro ?_ ?_ | omega)) (by omega) _ _ | with_reducible exact ((K4.alloc _).alloc _).far2 (by simp only [Off]; repeat' (first | exact trivial | refine And.intro ?_ ?_ | omega)) (by omega) _ _)
            clear hK K hHeld
            have hHeld := hHeld2
            clear hHeld2
            try simp only [Act.put, sa7, sb7, sc7]
            refine wpAnyH_ready (rs := [17]) (by kernel_rfl) (by simp) ?rdy5071
            refine (AllReadyH.cons (ga7 rfl) (fun K hK => ?stp5071_17) AllReadyH.nil)
            case stp5071_17 =>
              go_simp
              go_wp2_with fail
              refine hK.out _ _ ?hSn5072 (fun hHeld2 => ?rest5072)
              case hSn5072 => (first | with_reducible exact R0.drew | with_reducible exact (R0.alloc _).drew | with_reducible exact ((R0.alloc _).alloc _).drew | with_reducible exact hHeld.below hb4 | with_reducible exact hHeld.alloc _ | with_reducible exact hHeld.far2 (by simp only [Off]; repeat' (first | exact trivial | refine And.intro ?_ ?_ | omega)) (by omega) _ _ | with_reducible exact K4.alloc _ | with_reducible exact (K4.alloc _).alloc _ | with_reducible exact (K4.far2 (by simp only [Off]; repeat' (first | exact trivial | refine And.intro ?_ ?_ | omega)) (by omega) _ _).alloc _ | with_reducible exact (K4.alloc _).far2 (by simp only [Off]; repeat' (first | exact trivial | refine And.intro ?_ ?_ | omega)) (by omega) _ _ | with_reducible exact K4.far2 (by simp only [Off]; repeat' (first | exact trivial | refine And.intro ?_ ?_ | omega)) (by omega) _ _ | with_reducible exact ((K4.alloc _).alloc _).far2 (by simp only [Off]; repeat' (first | exact trivial | refine And.intro ?_ ?_ | omega)) (by omega) _ _)
              clear hK K hHeld
              have hHeld := hHeld2
              clear hHeld2
              try simp only [Act.put, sa7, sb7, sc7]
              refine wtk7 (i := 18) (v := ?v5073) (ga7 rfl) (by kernel_rfl) (fun _ _ _ h => h) ⟨by rfl, ?hy5073⟩ (by assumption) ?rest5073
              case hy5073 => (intro wq hSw; (try simp only [Two, Kn, Facts, CellsAt] at hSw); go_simp; try with_reducible rfl)
              try simp only [Act.put, sa7, sb7, sc7]
              refine wpAnyH_done (by kernel_rfl) ?_ _
              go_wp2_with fail
              go_meet
              case rel => exact ⟨_, _, rfl, rfl, rfl, (by (repeat (first | with_reducible exact Blk.new _ _ _ | with_reducible exact Blk.newB7 _ _ _ _ | with_reducible exact Blk.newsB7 _ _ _ _ _ _ _ | with_reducible exact U4 | with_reducible exact V4 | with_reducible refine Blk.put2 (x := .int .u64 0) (y := .int .u64 0) ?_ _ _ | with_reducible refine Blk.far2 ?_ (by omega) _ _ | with_reducible refine Blk.alloc ?_ _))), (by (repeat (first | with_reducible exact Blk.new _ _ _ | with_reducible exact Blk.newB7 _ _ _ _ | with_reducible exact Blk.newsB7 _ _ _ _ _ _ _ | with_reducible exact U4 | with_reducible exact V4 | with_reducible refine Blk.put2 (x := .int .u64 0) (y := .int .u64 0) ?_ _ _ | with_reducible refine Blk.far2 ?_ (by omega) _ _ | with_reducible refine Blk.alloc ?_ _))), hHeld⟩
      case stp5061_14 =>
        go_simp
        go_wp2_with fail
        refine hK.out _ _ ?hSn5074 (fun hHeld2 => ?rest5074)
        case hSn5074 => (first | with_reducible exact R0.drew | with_reducible exact (R0.alloc _).drew | with_reducible exact ((R0.alloc _).alloc _).drew | with_reducible exact hHeld.below hb4 | with_reducible exact hHeld.alloc _ | with_reducible exact hHeld.far2 (by simp only [Off]; repeat' (first | exact trivial | refine And.intro ?_ ?_ | omega)) (by omega) _ _ | with_reducible exact K4.alloc _ | with_reducible exact (K4.alloc _).alloc _ | with_reducible exact (K4.far2 (by simp only [Off]; repeat' (first | exact trivial | refine And.intro ?_ ?_ | omega)) (by omega) _ _).alloc _ | with_reducible exact (K4.alloc _).far2 (by simp only [Off]; repeat' (first | exact trivial | refine And.intro ?_ ?_ | omega)) (by omega) _ _ | with_reducible exact K4.far2 (by simp only [Off]; repeat' (first | exact trivial | refine And.intro ?_ ?_ | omega)) (by omega) _ _ | with_reducible exact ((K4.alloc _).alloc _).far2 (by simp only [Off]; repeat' (first | exact trivial | refine And.intro ?_ ?_ | omega)) (by omega) _ _)
        clear hK K hHeld
        have hHeld := hHeld2
        clear hHeld2
        try simp only [Act.put, sa7, sb7, sc7]
        refine wpAnyH_ready (rs := [9]) (by kernel_rfl) (by simp) ?rdy5075
        refine (AllReadyH.cons (ga7 rfl) (fun K hK => ?stp5075_9) AllReadyH.nil)
        case stp5075_9 =>
          go_simp
          go_wp2_with fail
          (refine (SP.out _).mono ?_; rintro e w4 ⟨rfl, hb4⟩; have K4 := hHeld.below hb4; have s4 : w0.heap.size ≤ w4.heap.size := (by have := hb4.size; first | exact this | (simp at this; omega)); first | (have U4 : Blk w4 w0.heap.size #[.int .u64 0, .int .u64 0] 24 := Blk.via hb4 ((Blk.new w0 #[.int .u64 0, .int .u64 0] 24).alloc (.cells #[.int .u64 0, .int .u64 0] 24)) rfl; have V4 : Blk w4 (w0.heap.size + 1) #[.int .u64 0, .int .u64 0] 24 := Blk.via hb4 (Blk.newB7 w0 (.cells #[.int .u64 0, .int .u64 0] 24) #[.int .u64 0, .int .u64 0] 24) rfl; obtain ⟨u0, u1, u2, u3, u4⟩ := U4.two; obtain ⟨y0, y1, y2, y3, y4⟩ := V4.two) | (have U4 : Blk w4 w0.heap.size #[.int .u64 0, .int .u64 0] 24 := Blk.via hb4 (Blk.new w0 #[.int .u64 0, .int .u64 0] 24) rfl; obtain ⟨u0, u1, u2, u3, u4⟩ := U4.two) | skip)
          go_wp2_with fail
          refine hK.out _ _ ?hSn5076 (fun hHeld2 => ?rest5076)
          case hSn5076 => (first | with_reducible exact R0.drew | with_reducible exact (R0.alloc _).drew | with_reducible exact ((R0.alloc _).alloc _).drew | with_reducible exact hHeld.below hb4 | with_reducible exact hHeld.alloc _ | with_reducible exact hHeld.far2 (by simp only [Off]; repeat' (first | exact trivial | refine And.intro ?_ ?_ | omega)) (by omega) _ _ | with_reducible exact K4.alloc _ | with_reducible exact (K4.alloc _).alloc _ | with_reducible exact (K4.far2 (by simp only [Off]; repeat' (first | exact trivial | refine And.intro ?_ ?_ | omega)) (by omega) _ _).alloc _ | with_reducible exact (K4.alloc _).far2 (by simp only [Off]; repeat' (first | exact trivial | refine And.intro ?_ ?_ | omega)) (by omega) _ _ | with_reducible exact K4.far2 (by simp only [Off]; repeat' (first | exact trivial | refine And.intro ?_ ?_ | omega)) (by omega) _ _ | with_reducible exact ((K4.alloc _).alloc _).far2 (by simp only [Off]; repeat' (first | exact trivial | refine And.intro ?_ ?_ | omega)) (by omega) _ _)
          clear hK K hHeld
          have hHeld := hHeld2
          clear hHeld2
          try simp only [Act.put, sa7, sb7, sc7]
          refine wtk7 (i := 10) (v := ?v5077) (ga7 rfl) (by kernel_rfl) (fun _ _ _ h => h) ⟨by rfl, ?hy5077⟩ (by assumption) ?rest5077
          case hy5077 => (intro wq hSw; (try simp only [Two, Kn, Facts, CellsAt] at hSw); go_simp; try with_reducible rfl)
          try simp only [Act.put, sa7, sb7, sc7]
          refine wtk7 (i := 11) (v := ?v5078) (ga7 rfl) (by kernel_rfl) (fun _ _ _ h => h) ⟨by rfl, ?hy5078⟩ (by assumption) ?rest5078
          case hy5078 => (intro wq hSw; (try simp only [Two, Kn, Facts, CellsAt] at hSw); go_simp; try with_reducible rfl)
          try simp only [Act.put, sa7, sb7, sc7]
          refine wtk7 (i := 12) (v := ?v5079) (ga7 rfl) (by kernel_rfl) (fun _ _ _ h => h) ⟨by rfl, ?hy5079⟩ (by assumption) ?rest5079
          case hy5079 => (intro wq hSw; (try simp only [Two, Kn, Facts, CellsAt] at hSw); go_simp; try with_reducible rfl)
          try simp only [Act.put, sa7, sb7, sc7]
          refine wtk7 (i := 13) (v := ?v5080) (ga7 rfl) (by kernel_rfl) (fun _ _ _ h => h) ⟨by rfl, ?hy5080⟩ (by assumption) ?rest5080
          case hy5080 => (intro wq hSw; (try simp only [Two, Kn, Facts, CellsAt] at hSw); go_simp; try with_reducible rfl)
          try simp only [Act.put, sa7, sb7, sc7]
          refine wpAnyH_ready (rs := [16]) (by kernel_rfl) (by simp) ?rdy5081
          refine (AllReadyH.cons (ga7 rfl) (fun K hK => ?stp5081_16) AllReadyH.nil)
          case stp5081_16 =>
            go_simp
            go_wp2_with fail
            refine hK.out _ _ ?hSn5082 (fun hHeld2 => ?rest5082)
            case hSn5082 => (first | with_reducible exact R0.drew | with_reducible exact (R0.alloc _).drew | with_reducible exact ((R0.alloc _).alloc _).drew | with_reducible exact hHeld.below hb4 | with_reducible exact hHeld.alloc _ | with_reducible exact hHeld.far2 (by simp only [Off]; repeat' (first | exact trivial | refine And.intro ?_ ?_ | omega)) (by omega) _ _ | with_reducible exact K4.alloc _ | with_reducible exact (K4.alloc _).alloc _ | with_reducible exact (K4.far2 (by simp only [Off]; repeat' (first | exact trivial | refine And.intro ?_ ?_ | omega)) (by omega) _ _).alloc _ | with_reducible exact (K4.alloc _).far2 (by simp only [Off]; repeat' (first | exact trivial | refine And.intro ?_ ?_ | omega)) (by omega) _ _ | with_reducible exact K4.far2 (by simp only [Off]; repeat' (first | exact trivial | refine And.intro ?_ ?_ | omega)) (by omega) _ _ | with_reducible exact ((K4.alloc _).alloc _).far2 (by simp only [Off]; repeat' (first | exact trivial | refine And.intro ?_ ?_ | omega)) (by omega) _ _)
            clear hK K hHeld
            have hHeld := hHeld2
            clear hHeld2
            try simp only [Act.put, sa7, sb7, sc7]
            refine wpAnyH_ready (rs := [17]) (by kernel_rfl) (by simp) ?rdy5083
            refine (AllReadyH.cons (ga7 rfl) (fun K hK => ?stp5083_17) AllReadyH.nil)
            case stp5083_17 =>
              go_simp
              go_wp2_with fail
              refine hK.out _ _ ?hSn5084 (fun hHeld2 => ?rest5084)
              case hSn5084 => (first | with_reducible exact R0.drew | with_reducible exact (R0.alloc _).drew | with_reducible exact ((R0.alloc _).alloc _).drew | with_reducible exact hHeld.below hb4 | with_reducible exact hHeld.alloc _ | with_reducible exact hHeld.far2 (by simp only [Off]; repeat' (first | exact trivial | refine And.intro ?_ ?_ | omega)) (by omega) _ _ | with_reducible exact K4.alloc _ | with_reducible exact (K4.alloc _).alloc _ | with_reducible exact (K4.far2 (by simp only [Off]; repeat' (first | exact trivial | refine And.intro ?_ ?_ | omega)) (by omega) _ _).alloc _ | with_reducible exact (K4.alloc _).far2 (by simp only [Off]; repeat' (first | exact trivial | refine And.intro ?_ ?_ | omega)) (by omega) _ _ | with_reducible exact K4.far2 (by simp only [Off]; repeat' (first | exact trivial | refine And.intro ?_ ?_ | omega)) (by omega) _ _ | with_reducible exact ((K4.alloc _).alloc _).far2 (by simp only [Off]; repeat' (first | exact trivial | refine And.intro ?_ ?_ | omega)) (by omega) _ _)
              clear hK K hHeld
              have hHeld := hHeld2
              clear hHeld2
              try simp only [Act.put, sa7, sb7, sc7]
              refine wtk7 (i := 18) (v := ?v5085) (ga7 rfl) (by kernel_rfl) (fun _ _ _ h => h) ⟨by rfl, ?hy5085⟩ (by assumption) ?rest5085
              case hy5085 => (intro wq hSw; (try simp only [Two, Kn, Facts, CellsAt] at hSw); go_simp; try with_reducible rfl)
              try simp only [Act.put, sa7, sb7, sc7]
              refine wpAnyH_done (by kernel_rfl) ?_ _
              go_wp2_with fail
              go_meet
              case rel => exact ⟨_, _, rfl, rfl, rfl, (by (repeat (first | with_reducible exact Blk.new _ _ _ | with_reducible exact Blk.newB7 _ _ _ _ | with_reducible exact Blk.newsB7 _ _ _ _ _ _ _ | with_reducible exact U4 | with_reducible exact V4 | with_reducible refine Blk.put2 (x := .int .u64 0) (y := .int .u64 0) ?_ _ _ | with_reducible refine Blk.far2 ?_ (by omega) _ _ | with_reducible refine Blk.alloc ?_ _))), (by (repeat (first | with_reducible exact Blk.new _ _ _ | with_reducible exact Blk.newB7 _ _ _ _ | with_reducible exact Blk.newsB7 _ _ _ _ _ _ _ | with_reducible exact U4 | with_reducible exact V4 | with_reducible refine Blk.put2 (x := .int .u64 0) (y := .int .u64 0) ?_ _ _ | with_reducible refine Blk.far2 ?_ (by omega) _ _ | with_reducible refine Blk.alloc ?_ _))), hHeld⟩
  case rest =>
    obtain ⟨X, Y, rfl, rfl, rfl, NX, NY, R⟩ := hcut
    have S0 : Kn w [(X, [.int .u64 fh, .int .u64 fl], 24), (Y, [.int .u64 gh, .int .u64 gl], 24)] wc := Kn.of ⟨NX, NY, trivial⟩ R.bel
    have hA := HA.out
    have hZ := HZ.out
    clear R0 R NX NY LT hs0 SP HA HZ
    go_wp2_with fail
    refine wp_region_held_drew (S := (Kn w [(X, [.int .u64 fh, .int .u64 fl], 24), (Y, [.int .u64 gh, .int .u64 gl], 24)])) (by kernel_rfl) ?hS100 (fun hHeld => ?rest100)
    case hS100 => (first | with_reducible exact S0.drew)
    refine wtk7 (i := 0) (v := ?v101) (ga7 rfl) (by kernel_rfl) (fun _ _ _ h => h) ⟨by rfl, ?hy101⟩ (by assumption) ?rest101
    case hy101 => (intro wq hSw; (try simp only [Two, Kn, Facts, CellsAt] at hSw); go_simp; try with_reducible rfl)
    try simp only [Act.put, sa7, sb7, sc7]
    refine wtk7 (i := 1) (v := ?v102) (ga7 rfl) (by kernel_rfl) (fun _ _ _ h => h) ⟨by rfl, ?hy102⟩ (by assumption) ?rest102
    case hy102 => (intro wq hSw; (try simp only [Two, Kn, Facts, CellsAt] at hSw); go_simp; try with_reducible rfl)
    try simp only [Act.put, sa7, sb7, sc7]
    refine wtk7 (i := 2) (v := ?v103) (ga7 rfl) (by kernel_rfl) (fun _ _ _ h => h) ⟨by rfl, ?hy103⟩ (by assumption) ?rest103
    case hy103 => (intro wq hSw; (try simp only [Two, Kn, Facts, CellsAt] at hSw); go_simp; try with_reducible rfl)
    try simp only [Act.put, sa7, sb7, sc7]
    refine wtk7 (i := 3) (v := ?v104) (ga7 rfl) (by kernel_rfl) (fun _ _ _ h => h) ⟨by rfl, ?hy104⟩ (by assumption) ?rest104
    case hy104 => (intro wq hSw; (try simp only [Two, Kn, Facts, CellsAt] at hSw); go_simp; try with_reducible rfl)
    try simp only [Act.put, sa7, sb7, sc7]
    refine wtk7 (i := 4) (v := ?v105) (ga7 rfl) (by kernel_rfl) (fun _ _ _ h => h) ⟨by rfl, ?hy105⟩ (by assumption) ?rest105
    case hy105 => (intro wq hSw; (try simp only [Two, Kn, Facts, CellsAt] at hSw); go_simp; try with_reducible rfl)
    try simp only [Act.put, sa7, sb7, sc7]
    refine wtk7 (i := 5) (v := ?v106) (ga7 rfl) (by kernel_rfl) (fun _ _ _ h => h) ⟨by rfl, ?hy106⟩ (by assumption) ?rest106
    case hy106 => (intro wq hSw; (try simp only [Two, Kn, Facts, CellsAt] at hSw); go_simp; try with_reducible rfl)
    try simp only [Act.put, sa7, sb7, sc7]
    refine wtk7 (i := 6) (v := ?v107) (ga7 rfl) (by kernel_rfl) (fun _ _ _ h => h) ⟨by rfl, ?hy107⟩ (by assumption) ?rest107
    case hy107 => (intro wq hSw; (try simp only [Two, Kn, Facts, CellsAt] at hSw); go_simp; try with_reducible rfl)
    try simp only [Act.put, sa7, sb7, sc7]
    refine wtk7 (i := 7) (v := ?v108) (ga7 rfl) (by kernel_rfl) (fun _ _ _ h => h) ⟨by rfl, ?hy108⟩ (by assumption) ?rest108
    case hy108 => (intro wq hSw; (try simp only [Two, Kn, Facts, CellsAt] at hSw); go_simp; try with_reducible rfl)
    try simp only [Act.put, sa7, sb7, sc7]
    refine wtk7 (i := 8) (v := ?v109) (ga7 rfl) (by kernel_rfl) (fun _ _ _ h => h) ⟨by rfl, ?hy109⟩ (by assumption) ?rest109
    case hy109 => (intro wq hSw; (try simp only [Two, Kn, Facts, CellsAt] at hSw); go_simp; try with_reducible rfl)
    try simp only [Act.put, sa7, sb7, sc7]
    refine wtk7 (i := 9) (v := ?v110) (ga7 rfl) (by kernel_rfl) (fun _ _ _ h => h) ⟨by rfl, ?hy110⟩ (by assumption) ?rest110
    case hy110 => (intro wq hSw; (try simp only [Two, Kn, Facts, CellsAt] at hSw); go_simp; try with_reducible rfl)
    try simp only [Act.put, sa7, sb7, sc7]
    refine wpAnyH_done (by kernel_rfl) ?fin100 _
    have B := hHeld.bel
    clear hHeld S0
    go_wp2
    go_ret3
    exact ⟨by first | rfl | simp [hA, hZ], B⟩

set_option maxRecDepth 100000 in
set_option maxHeartbeats 3200000 in
theorem sblock_w {v : Bool} {h l b k i rh rl cu : Int} {a x : Nat} (hi : IntKind.u64.wrap i = i)
    (BK : Hid (∀ w', Calls Tryz.prog 127 #[pv v h l b, .int .i64 k, nv 0 i] w' fun e w1 => e = .returned (.tuple #[pv v rh rl k, .int .i64 0]) ∧ Below w'.heap.size w' w1)) (w : World)
    (hx : Blk w x #[.bool v, .int .u64 h, .int .u64 l, .int .i64 b, .int .i64 k, .pointer (some ⟨a, 0, none⟩), .int .i64 cu] 115) :
    Calls Tryz.prog 85 #[.pointer (some ⟨x, 0, none⟩), .int .i64 i] w fun e w' => e = .returned (pv v rh rl k) ∧ Below w.heap.size w w' := by
  have OF : Hid (∀ w', Calls Tryz.prog 80 #[.int .u64 i] w' fun e w1 => e = .returned (nv 0 i) ∧ Below w'.heap.size w' w1) := fun w' => of_w i w'
  have R0 : Kn w [(w.heap.size, [.bool false, .int .u64 0, .int .u64 0, .int .i64 0], 28), (x, [.bool v, .int .u64 h, .int .u64 l, .int .i64 b, .int .i64 k, .pointer (some ⟨a, 0, none⟩), .int .i64 cu], 115)] (w.alloc (.cells #[.bool false, .int .u64 0, .int .u64 0, .int .i64 0] 28)) := ((Kn.nil w).cons hx).push rfl
  have hxl := hx.lt
  obtain ⟨w0, hw0⟩ : ∃ w0, w0 = w.alloc (.cells #[.bool false, .int .u64 0, .int .u64 0, .int .i64 0] 28) := ⟨_, rfl⟩
  rw [← hw0] at R0
  have LT := R0.lts
  simp only [Lts] at LT
  have hs0 := R0.bel.size
  clear hx
  go_enter Tryz.func85, Tryz.ntmps85
  go_upto_region 1 with fail
  rw [← hw0]
  clear hw0
  go_cut [5, 6] (fun p t wc => ∃ X : Nat, p = .pointer (some ⟨X, 0, none⟩) ∧ t = .int .i64 0 ∧ w.heap.size < X ∧ Blk wc X #[.bool v, .int .u64 rh, .int .u64 rl, .int .i64 k] 28 ∧ Kn w [(w.heap.size, [.bool false, .int .u64 0, .int .u64 0, .int .i64 0], 28), (x, [.bool v, .int .u64 h, .int .u64 l, .int .i64 b, .int .i64 k, .pointer (some ⟨a, 0, none⟩), .int .i64 cu], 115)] wc)
  case first =>
    refine wp_region_held_drew (S := (Kn w [(w.heap.size, [.bool false, .int .u64 0, .int .u64 0, .int .i64 0], 28), (x, [.bool v, .int .u64 h, .int .u64 l, .int .i64 b, .int .i64 k, .pointer (some ⟨a, 0, none⟩), .int .i64 cu], 115)])) (by kernel_rfl) ?hS5086 (fun hHeld => ?rest5086)
    case hS5086 => (first | with_reducible exact R0.drew | with_reducible exact (R0.alloc _).drew | with_reducible exact hHeld.below hb4 | with_reducible exact hHeld.below hb5 | with_reducible exact hHeld.alloc _ | with_reducible exact K5.alloc _ | with_reducible exact hHeld.far4 (by simp only [Off]; repeat' (first | exact trivial | refine And.intro ?_ ?_ | omega)) (by omega) _ _ _ _ | with_reducible exact K5.far4 (by simp only [Off]; repeat' (first | exact trivial | refine And.intro ?_ ?_ | omega)) (by omega) _ _ _ _ | with_reducible exact (K5.alloc _).far4 (by simp only [Off]; repeat' (first | exact trivial | refine And.intro ?_ ?_ | omega)) (by omega) _ _ _ _)
    refine wtk7 (i := 0) (v := ?v5087) (ga7 rfl) (by kernel_rfl) (fun _ _ _ h => h) ⟨by rfl, ?hy5087⟩ (by assumption) ?rest5087
    case hy5087 => (intro wq hSw; (try simp only [Two, Kn, Facts, CellsAt] at hSw); go_simp; try with_reducible rfl)
    try simp only [Act.put, sa7, sb7, sc7]
    refine wtk7 (i := 1) (v := ?v5088) (ga7 rfl) (by kernel_rfl) (fun _ _ _ h => h) ⟨by rfl, ?hy5088⟩ (by assumption) ?rest5088
    case hy5088 => (intro wq hSw; (try simp only [Two, Kn, Facts, CellsAt] at hSw); go_simp; try with_reducible rfl)
    try simp only [Act.put, sa7, sb7, sc7]
    refine wtk7 (i := 2) (v := ?v5089) (ga7 rfl) (by kernel_rfl) (fun _ _ _ h => h) ⟨by rfl, ?hy5089⟩ (by assumption) ?rest5089
    case hy5089 => (intro wq hSw; (try simp only [Two, Kn, Facts, CellsAt] at hSw); go_simp; try with_reducible rfl)
    try simp only [Act.put, sa7, sb7, sc7]
    refine wtk7 (i := 3) (v := ?v5090) (ga7 rfl) (by kernel_rfl) (fun _ _ _ h => h) ⟨by rfl, ?hy5090⟩ (by assumption) ?rest5090
    case hy5090 => (intro wq hSw; (try simp only [Two, Kn, Facts, CellsAt] at hSw); go_simp; try with_reducible rfl)
    try simp only [Act.put, sa7, sb7, sc7]
    refine wtk7 (i := 4) (v := ?v5091) (ga7 rfl) (by kernel_rfl) (fun _ _ _ h => h) ⟨by rfl, ?hy5091⟩ (by assumption) ?rest5091
    case hy5091 => (intro wq hSw; (try simp only [Two, Kn, Facts, CellsAt] at hSw); go_simp; try with_reducible rfl)
    try simp only [Act.put, sa7, sb7, sc7]
    refine wtk7 (i := 5) (v := ?v5092) (ga7 rfl) (by kernel_rfl) (fun _ _ _ h => h) ⟨by rfl, ?hy5092⟩ (by assumption) ?rest5092
    case hy5092 => (intro wq hSw; (try simp only [Two, Kn, Facts, CellsAt] at hSw); go_simp; try with_reducible rfl)
    try simp only [Act.put, sa7, sb7, sc7]
    refine wtk7 (i := 6) (v := ?v5093) (ga7 rfl) (by kernel_rfl) (fun _ _ _ h => h) ⟨by rfl, ?hy5093⟩ (by assumption) ?rest5093
    case hy5093 => (intro wq hSw; (try simp only [Two, Kn, Facts, CellsAt] at hSw); go_simp; try with_reducible rfl)
    try simp only [Act.put, sa7, sb7, sc7]
    refine wtk7 (i := 7) (v := ?v5094) (ga7 rfl) (by kernel_rfl) (fun _ _ _ h => h) ⟨by rfl, ?hy5094⟩ (by assumption) ?rest5094
    case hy5094 => (intro wq hSw; (try simp only [Two, Kn, Facts, CellsAt] at hSw); go_simp; try with_reducible rfl)
    try simp only [Act.put, sa7, sb7, sc7]
    refine wtk7 (i := 8) (v := ?v5095) (ga7 rfl) (by kernel_rfl) (fun _ _ _ h => h) ⟨by rfl, ?hy5095⟩ (by assumption) ?rest5095
    case hy5095 => (intro wq hSw; (try simp only [Two, Kn, Facts, CellsAt] at hSw); go_simp; try with_reducible rfl)
    try simp only [Act.put, sa7, sb7, sc7]
    refine wtk7 (i := 9) (v := ?v5096) (ga7 rfl) (by kernel_rfl) (fun _ _ _ h => h) ⟨by rfl, ?hy5096⟩ (by assumption) ?rest5096
    case hy5096 => (intro wq hSw; (try simp only [Two, Kn, Facts, CellsAt] at hSw); go_simp; try with_reducible rfl)
    try simp only [Act.put, sa7, sb7, sc7]
    refine wpAnyH_ready (rs := [10, 15]) (by kernel_rfl) (by simp) ?rdy5097
    refine (AllReadyH.cons (ga7 rfl) (fun K hK => ?stp5097_10) (AllReadyH.cons (ga7 rfl) (fun K hK => ?stp5097_15) AllReadyH.nil))
    case stp5097_10 =>
      go_simp
      go_wp2_with fail
      (refine (OF.out _).mono ?_; rintro e w4 ⟨rfl, hb4⟩; have s4 : w0.heap.size ≤ w4.heap.size := (by have := hb4.size; first | exact this | (simp at this; omega)); first | (have U4 : Blk w4 w0.heap.size #[.bool false, .int .u64 0, .int .u64 0, .int .i64 0] 28 := Blk.via hb4 (Blk.new w0 #[.bool false, .int .u64 0, .int .u64 0, .int .i64 0] 28) rfl; obtain ⟨u0, u1, u2, u3, u4, u5, u6, u7, u8⟩ := U4.four) | skip)
      go_wp2_with fail
      refine hK.out _ _ ?hSn5098 (fun hHeld2 => ?rest5098)
      case hSn5098 => (first | with_reducible exact R0.drew | with_reducible exact (R0.alloc _).drew | with_reducible exact hHeld.below hb4 | with_reducible exact hHeld.below hb5 | with_reducible exact hHeld.alloc _ | with_reducible exact K5.alloc _ | with_reducible exact hHeld.far4 (by simp only [Off]; repeat' (first | exact trivial | refine And.intro ?_ ?_ | omega)) (by omega) _ _ _ _ | with_reducible exact K5.far4 (by simp only [Off]; repeat' (first | exact trivial | refine And.intro ?_ ?_ | omega)) (by omega) _ _ _ _ | with_reducible exact (K5.alloc _).far4 (by simp only [Off]; repeat' (first | exact trivial | refine And.intro ?_ ?_ | omega)) (by omega) _ _ _ _)
      clear hK K hHeld
      have hHeld := hHeld2
      clear hHeld2
      try simp only [Act.put, sa7, sb7, sc7]
      refine wpAnyH_ready (rs := [11, 15]) (by kernel_rfl) (by simp) ?rdy5099
      refine (AllReadyH.cons (ga7 rfl) (fun K hK => ?stp5099_11) (AllReadyH.cons (ga7 rfl) (fun K hK => ?stp5099_15) AllReadyH.nil))
      case stp5099_11 =>
        go_simp
        go_wp2_with fail
        (refine (BK.out _).mono ?_; rintro e w5 ⟨rfl, hb5⟩; have K5 := hHeld.below hb5; have s5 : w4.heap.size ≤ w5.heap.size := (by have := hb5.size; first | exact this | (simp at this; omega)); first | (have U5 := U4.below hb5; obtain ⟨a0, a1, a2, a3, a4, a5, a6, a7, a8⟩ := U5.four) | (have U5 : Blk w5 w4.heap.size #[.bool false, .int .u64 0, .int .u64 0, .int .i64 0] 28 := Blk.via hb5 (Blk.new w4 #[.bool false, .int .u64 0, .int .u64 0, .int .i64 0] 28) rfl; obtain ⟨p0, p1, p2, p3, p4, p5, p6, p7, p8⟩ := U5.four) | skip)
        go_wp2_with fail
        refine hK.out _ _ ?hSn5100 (fun hHeld2 => ?rest5100)
        case hSn5100 => (first | with_reducible exact R0.drew | with_reducible exact (R0.alloc _).drew | with_reducible exact hHeld.below hb4 | with_reducible exact hHeld.below hb5 | with_reducible exact hHeld.alloc _ | with_reducible exact K5.alloc _ | with_reducible exact hHeld.far4 (by simp only [Off]; repeat' (first | exact trivial | refine And.intro ?_ ?_ | omega)) (by omega) _ _ _ _ | with_reducible exact K5.far4 (by simp only [Off]; repeat' (first | exact trivial | refine And.intro ?_ ?_ | omega)) (by omega) _ _ _ _ | with_reducible exact (K5.alloc _).far4 (by simp only [Off]; repeat' (first | exact trivial | refine And.intro ?_ ?_ | omega)) (by omega) _ _ _ _)
        clear hK K hHeld
        have hHeld := hHeld2
        clear hHeld2
        try simp only [Act.put, sa7, sb7, sc7]
        refine wtk7 (i := 12) (v := ?v5101) (ga7 rfl) (by kernel_rfl) (fun _ _ _ h => h) ⟨by rfl, ?hy5101⟩ (by assumption) ?rest5101
        case hy5101 => (intro wq hSw; (try simp only [Two, Kn, Facts, CellsAt] at hSw); go_simp; try with_reducible rfl)
        try simp only [Act.put, sa7, sb7, sc7]
        refine wtk7 (i := 13) (v := ?v5102) (ga7 rfl) (by kernel_rfl) (fun _ _ _ h => h) ⟨by rfl, ?hy5102⟩ (by assumption) ?rest5102
        case hy5102 => (intro wq hSw; (try simp only [Two, Kn, Facts, CellsAt] at hSw); go_simp; try with_reducible rfl)
        try simp only [Act.put, sa7, sb7, sc7]
        refine wtk7 (i := 14) (v := ?v5103) (ga7 rfl) (by kernel_rfl) (fun _ _ _ h => h) ⟨by rfl, ?hy5103⟩ (by assumption) ?rest5103
        case hy5103 => (intro wq hSw; (try simp only [Two, Kn, Facts, CellsAt] at hSw); go_simp; try with_reducible rfl)
        try simp only [Act.put, sa7, sb7, sc7]
        refine wpAnyH_ready (rs := [15]) (by kernel_rfl) (by simp) ?rdy5104
        refine (AllReadyH.cons (ga7 rfl) (fun K hK => ?stp5104_15) AllReadyH.nil)
        case stp5104_15 =>
          go_simp
          go_wp2_with fail
          refine hK.out _ _ ?hSn5105 (fun hHeld2 => ?rest5105)
          case hSn5105 => (first | with_reducible exact R0.drew | with_reducible exact (R0.alloc _).drew | with_reducible exact hHeld.below hb4 | with_reducible exact hHeld.below hb5 | with_reducible exact hHeld.alloc _ | with_reducible exact K5.alloc _ | with_reducible exact hHeld.far4 (by simp only [Off]; repeat' (first | exact trivial | refine And.intro ?_ ?_ | omega)) (by omega) _ _ _ _ | with_reducible exact K5.far4 (by simp only [Off]; repeat' (first | exact trivial | refine And.intro ?_ ?_ | omega)) (by omega) _ _ _ _ | with_reducible exact (K5.alloc _).far4 (by simp only [Off]; repeat' (first | exact trivial | refine And.intro ?_ ?_ | omega)) (by omega) _ _ _ _)
          clear hK K hHeld
          have hHeld := hHeld2
          clear hHeld2
          try simp only [Act.put, sa7, sb7, sc7]
          refine wpAnyH_ready (rs := [16]) (by kernel_rfl) (by simp) ?rdy5106
          refine (AllReadyH.cons (ga7 rfl) (fun K hK => ?stp5106_16) AllReadyH.nil)
          case stp5106_16 =>
            go_simp
            go_wp2_with fail
            refine hK.out _ _ ?hSn5107 (fun hHeld2 => ?rest5107)
            case hSn5107 => (first | with_reducible exact R0.drew | with_reducible exact (R0.alloc _).drew | with_reducible exact hHeld.below hb4 | with_reducible exact hHeld.below hb5 | with_reducible exact hHeld.alloc _ | with_reducible exact K5.alloc _ | with_reducible exact hHeld.far4 (by simp only [Off]; repeat' (first | exact trivial | refine And.intro ?_ ?_ | omega)) (by omega) _ _ _ _ | with_reducible exact K5.far4 (by simp only [Off]; repeat' (first | exact trivial | refine And.intro ?_ ?_ | omega)) (by omega) _ _ _ _ | with_reducible exact (K5.alloc _).far4 (by simp only [Off]; repeat' (first | exact trivial | refine And.intro ?_ ?_ | omega)) (by omega) _ _ _ _)
            clear hK K hHeld
            have hHeld := hHeld2
            clear hHeld2
            try simp only [Act.put, sa7, sb7, sc7]
            refine wtk7 (i := 17) (v := ?v5108) (ga7 rfl) (by kernel_rfl) (fun _ _ _ h => h) ⟨by rfl, ?hy5108⟩ (by assumption) ?rest5108
            case hy5108 => (intro wq hSw; (try simp only [Two, Kn, Facts, CellsAt] at hSw); go_simp; try with_reducible rfl)
            try simp only [Act.put, sa7, sb7, sc7]
            refine wpAnyH_done (by kernel_rfl) ?_ _
            go_wp2_with fail
            go_meet
            case rel => exact ⟨_, rfl, rfl, (by omega), (by repeat (first | with_reducible exact Blk.new _ _ _ | with_reducible exact U5 | with_reducible refine Blk.put4 (x := .bool false) (y := .int .u64 0) (z := .int .u64 0) (q := .int .i64 0) ?_ _ _ _ _)), hHeld⟩
      case stp5099_15 =>
        go_simp
        go_wp2_with fail
        refine hK.out _ _ ?hSn5109 (fun hHeld2 => ?rest5109)
        case hSn5109 => (first | with_reducible exact R0.drew | with_reducible exact (R0.alloc _).drew | with_reducible exact hHeld.below hb4 | with_reducible exact hHeld.below hb5 | with_reducible exact hHeld.alloc _ | with_reducible exact K5.alloc _ | with_reducible exact hHeld.far4 (by simp only [Off]; repeat' (first | exact trivial | refine And.intro ?_ ?_ | omega)) (by omega) _ _ _ _ | with_reducible exact K5.far4 (by simp only [Off]; repeat' (first | exact trivial | refine And.intro ?_ ?_ | omega)) (by omega) _ _ _ _ | with_reducible exact (K5.alloc _).far4 (by simp only [Off]; repeat' (first | exact trivial | refine And.intro ?_ ?_ | omega)) (by omega) _ _ _ _)
        clear hK K hHeld
        have hHeld := hHeld2
        clear hHeld2
        try simp only [Act.put, sa7, sb7, sc7]
        refine wpAnyH_ready (rs := [11]) (by kernel_rfl) (by simp) ?rdy5110
        refine (AllReadyH.cons (ga7 rfl) (fun K hK => ?stp5110_11) AllReadyH.nil)
        case stp5110_11 =>
          go_simp
          go_wp2_with fail
          (refine (BK.out _).mono ?_; rintro e w5 ⟨rfl, hb5⟩; have K5 := hHeld.below hb5; have s5 : w4.heap.size ≤ w5.heap.size := (by have := hb5.size; first | exact this | (simp at this; omega)); first | (have U5 := U4.below hb5; obtain ⟨a0, a1, a2, a3, a4, a5, a6, a7, a8⟩ := U5.four) | (have U5 : Blk w5 w4.heap.size #[.bool false, .int .u64 0, .int .u64 0, .int .i64 0] 28 := Blk.via hb5 (Blk.new w4 #[.bool false, .int .u64 0, .int .u64 0, .int .i64 0] 28) rfl; obtain ⟨p0, p1, p2, p3, p4, p5, p6, p7, p8⟩ := U5.four) | skip)
          go_wp2_with fail
          refine hK.out _ _ ?hSn5111 (fun hHeld2 => ?rest5111)
          case hSn5111 => (first | with_reducible exact R0.drew | with_reducible exact (R0.alloc _).drew | with_reducible exact hHeld.below hb4 | with_reducible exact hHeld.below hb5 | with_reducible exact hHeld.alloc _ | with_reducible exact K5.alloc _ | with_reducible exact hHeld.far4 (by simp only [Off]; repeat' (first | exact trivial | refine And.intro ?_ ?_ | omega)) (by omega) _ _ _ _ | with_reducible exact K5.far4 (by simp only [Off]; repeat' (first | exact trivial | refine And.intro ?_ ?_ | omega)) (by omega) _ _ _ _ | with_reducible exact (K5.alloc _).far4 (by simp only [Off]; repeat' (first | exact trivial | refine And.intro ?_ ?_ | omega)) (by omega) _ _ _ _)
          clear hK K hHeld
          have hHeld := hHeld2
          clear hHeld2
          try simp only [Act.put, sa7, sb7, sc7]
          refine wtk7 (i := 12) (v := ?v5112) (ga7 rfl) (by kernel_rfl) (fun _ _ _ h => h) ⟨by rfl, ?hy5112⟩ (by assumption) ?rest5112
          case hy5112 => (intro wq hSw; (try simp only [Two, Kn, Facts, CellsAt] at hSw); go_simp; try with_reducible rfl)
          try simp only [Act.put, sa7, sb7, sc7]
          refine wtk7 (i := 13) (v := ?v5113) (ga7 rfl) (by kernel_rfl) (fun _ _ _ h => h) ⟨by rfl, ?hy5113⟩ (by assumption) ?rest5113
          case hy5113 => (intro wq hSw; (try simp only [Two, Kn, Facts, CellsAt] at hSw); go_simp; try with_reducible rfl)
          try simp only [Act.put, sa7, sb7, sc7]
          refine wtk7 (i := 14) (v := ?v5114) (ga7 rfl) (by kernel_rfl) (fun _ _ _ h => h) ⟨by rfl, ?hy5114⟩ (by assumption) ?rest5114
          case hy5114 => (intro wq hSw; (try simp only [Two, Kn, Facts, CellsAt] at hSw); go_simp; try with_reducible rfl)
          try simp only [Act.put, sa7, sb7, sc7]
          refine wpAnyH_ready (rs := [16]) (by kernel_rfl) (by simp) ?rdy5115
          refine (AllReadyH.cons (ga7 rfl) (fun K hK => ?stp5115_16) AllReadyH.nil)
          case stp5115_16 =>
            go_simp
            go_wp2_with fail
            refine hK.out _ _ ?hSn5116 (fun hHeld2 => ?rest5116)
            case hSn5116 => (first | with_reducible exact R0.drew | with_reducible exact (R0.alloc _).drew | with_reducible exact hHeld.below hb4 | with_reducible exact hHeld.below hb5 | with_reducible exact hHeld.alloc _ | with_reducible exact K5.alloc _ | with_reducible exact hHeld.far4 (by simp only [Off]; repeat' (first | exact trivial | refine And.intro ?_ ?_ | omega)) (by omega) _ _ _ _ | with_reducible exact K5.far4 (by simp only [Off]; repeat' (first | exact trivial | refine And.intro ?_ ?_ | omega)) (by omega) _ _ _ _ | with_reducible exact (K5.alloc _).far4 (by simp only [Off]; repeat' (first | exact trivial | refine And.intro ?_ ?_ | omega)) (by omega) _ _ _ _)
            clear hK K hHeld
            have hHeld := hHeld2
            clear hHeld2
            try simp only [Act.put, sa7, sb7, sc7]
            refine wtk7 (i := 17) (v := ?v5117) (ga7 rfl) (by kernel_rfl) (fun _ _ _ h => h) ⟨by rfl, ?hy5117⟩ (by assumption) ?rest5117
            case hy5117 => (intro wq hSw; (try simp only [Two, Kn, Facts, CellsAt] at hSw); go_simp; try with_reducible rfl)
            try simp only [Act.put, sa7, sb7, sc7]
            refine wpAnyH_done (by kernel_rfl) ?_ _
            go_wp2_with fail
            go_meet
            case rel => exact ⟨_, rfl, rfl, (by omega), (by repeat (first | with_reducible exact Blk.new _ _ _ | with_reducible exact U5 | with_reducible refine Blk.put4 (x := .bool false) (y := .int .u64 0) (z := .int .u64 0) (q := .int .i64 0) ?_ _ _ _ _)), hHeld⟩
    case stp5097_15 =>
      go_simp
      go_wp2_with fail
      refine hK.out _ _ ?hSn5118 (fun hHeld2 => ?rest5118)
      case hSn5118 => (first | with_reducible exact R0.drew | with_reducible exact (R0.alloc _).drew | with_reducible exact hHeld.below hb4 | with_reducible exact hHeld.below hb5 | with_reducible exact hHeld.alloc _ | with_reducible exact K5.alloc _ | with_reducible exact hHeld.far4 (by simp only [Off]; repeat' (first | exact trivial | refine And.intro ?_ ?_ | omega)) (by omega) _ _ _ _ | with_reducible exact K5.far4 (by simp only [Off]; repeat' (first | exact trivial | refine And.intro ?_ ?_ | omega)) (by omega) _ _ _ _ | with_reducible exact (K5.alloc _).far4 (by simp only [Off]; repeat' (first | exact trivial | refine And.intro ?_ ?_ | omega)) (by omega) _ _ _ _)
      clear hK K hHeld
      have hHeld := hHeld2
      clear hHeld2
      try simp only [Act.put, sa7, sb7, sc7]
      refine wpAnyH_ready (rs := [10]) (by kernel_rfl) (by simp) ?rdy5119
      refine (AllReadyH.cons (ga7 rfl) (fun K hK => ?stp5119_10) AllReadyH.nil)
      case stp5119_10 =>
        go_simp
        go_wp2_with fail
        (refine (OF.out _).mono ?_; rintro e w4 ⟨rfl, hb4⟩; have s4 : w0.heap.size ≤ w4.heap.size := (by have := hb4.size; first | exact this | (simp at this; omega)); first | (have U4 : Blk w4 w0.heap.size #[.bool false, .int .u64 0, .int .u64 0, .int .i64 0] 28 := Blk.via hb4 (Blk.new w0 #[.bool false, .int .u64 0, .int .u64 0, .int .i64 0] 28) rfl; obtain ⟨u0, u1, u2, u3, u4, u5, u6, u7, u8⟩ := U4.four) | skip)
        go_wp2_with fail
        refine hK.out _ _ ?hSn5120 (fun hHeld2 => ?rest5120)
        case hSn5120 => (first | with_reducible exact R0.drew | with_reducible exact (R0.alloc _).drew | with_reducible exact hHeld.below hb4 | with_reducible exact hHeld.below hb5 | with_reducible exact hHeld.alloc _ | with_reducible exact K5.alloc _ | with_reducible exact hHeld.far4 (by simp only [Off]; repeat' (first | exact trivial | refine And.intro ?_ ?_ | omega)) (by omega) _ _ _ _ | with_reducible exact K5.far4 (by simp only [Off]; repeat' (first | exact trivial | refine And.intro ?_ ?_ | omega)) (by omega) _ _ _ _ | with_reducible exact (K5.alloc _).far4 (by simp only [Off]; repeat' (first | exact trivial | refine And.intro ?_ ?_ | omega)) (by omega) _ _ _ _)
        clear hK K hHeld
        have hHeld := hHeld2
        clear hHeld2
        try simp only [Act.put, sa7, sb7, sc7]
        refine wpAnyH_ready (rs := [11]) (by kernel_rfl) (by simp) ?rdy5121
        refine (AllReadyH.cons (ga7 rfl) (fun K hK => ?stp5121_11) AllReadyH.nil)
        case stp5121_11 =>
          go_simp
          go_wp2_with fail
          (refine (BK.out _).mono ?_; rintro e w5 ⟨rfl, hb5⟩; have K5 := hHeld.below hb5; have s5 : w4.heap.size ≤ w5.heap.size := (by have := hb5.size; first | exact this | (simp at this; omega)); first | (have U5 := U4.below hb5; obtain ⟨a0, a1, a2, a3, a4, a5, a6, a7, a8⟩ := U5.four) | (have U5 : Blk w5 w4.heap.size #[.bool false, .int .u64 0, .int .u64 0, .int .i64 0] 28 := Blk.via hb5 (Blk.new w4 #[.bool false, .int .u64 0, .int .u64 0, .int .i64 0] 28) rfl; obtain ⟨p0, p1, p2, p3, p4, p5, p6, p7, p8⟩ := U5.four) | skip)
          go_wp2_with fail
          refine hK.out _ _ ?hSn5122 (fun hHeld2 => ?rest5122)
          case hSn5122 => (first | with_reducible exact R0.drew | with_reducible exact (R0.alloc _).drew | with_reducible exact hHeld.below hb4 | with_reducible exact hHeld.below hb5 | with_reducible exact hHeld.alloc _ | with_reducible exact K5.alloc _ | with_reducible exact hHeld.far4 (by simp only [Off]; repeat' (first | exact trivial | refine And.intro ?_ ?_ | omega)) (by omega) _ _ _ _ | with_reducible exact K5.far4 (by simp only [Off]; repeat' (first | exact trivial | refine And.intro ?_ ?_ | omega)) (by omega) _ _ _ _ | with_reducible exact (K5.alloc _).far4 (by simp only [Off]; repeat' (first | exact trivial | refine And.intro ?_ ?_ | omega)) (by omega) _ _ _ _)
          clear hK K hHeld
          have hHeld := hHeld2
          clear hHeld2
          try simp only [Act.put, sa7, sb7, sc7]
          refine wtk7 (i := 12) (v := ?v5123) (ga7 rfl) (by kernel_rfl) (fun _ _ _ h => h) ⟨by rfl, ?hy5123⟩ (by assumption) ?rest5123
          case hy5123 => (intro wq hSw; (try simp only [Two, Kn, Facts, CellsAt] at hSw); go_simp; try with_reducible rfl)
          try simp only [Act.put, sa7, sb7, sc7]
          refine wtk7 (i := 13) (v := ?v5124) (ga7 rfl) (by kernel_rfl) (fun _ _ _ h => h) ⟨by rfl, ?hy5124⟩ (by assumption) ?rest5124
          case hy5124 => (intro wq hSw; (try simp only [Two, Kn, Facts, CellsAt] at hSw); go_simp; try with_reducible rfl)
          try simp only [Act.put, sa7, sb7, sc7]
          refine wtk7 (i := 14) (v := ?v5125) (ga7 rfl) (by kernel_rfl) (fun _ _ _ h => h) ⟨by rfl, ?hy5125⟩ (by assumption) ?rest5125
          case hy5125 => (intro wq hSw; (try simp only [Two, Kn, Facts, CellsAt] at hSw); go_simp; try with_reducible rfl)
          try simp only [Act.put, sa7, sb7, sc7]
          refine wpAnyH_ready (rs := [16]) (by kernel_rfl) (by simp) ?rdy5126
          refine (AllReadyH.cons (ga7 rfl) (fun K hK => ?stp5126_16) AllReadyH.nil)
          case stp5126_16 =>
            go_simp
            go_wp2_with fail
            refine hK.out _ _ ?hSn5127 (fun hHeld2 => ?rest5127)
            case hSn5127 => (first | with_reducible exact R0.drew | with_reducible exact (R0.alloc _).drew | with_reducible exact hHeld.below hb4 | with_reducible exact hHeld.below hb5 | with_reducible exact hHeld.alloc _ | with_reducible exact K5.alloc _ | with_reducible exact hHeld.far4 (by simp only [Off]; repeat' (first | exact trivial | refine And.intro ?_ ?_ | omega)) (by omega) _ _ _ _ | with_reducible exact K5.far4 (by simp only [Off]; repeat' (first | exact trivial | refine And.intro ?_ ?_ | omega)) (by omega) _ _ _ _ | with_reducible exact (K5.alloc _).far4 (by simp only [Off]; repeat' (first | exact trivial | refine And.intro ?_ ?_ | omega)) (by omega) _ _ _ _)
            clear hK K hHeld
            have hHeld := hHeld2
            clear hHeld2
            try simp only [Act.put, sa7, sb7, sc7]
            refine wtk7 (i := 17) (v := ?v5128) (ga7 rfl) (by kernel_rfl) (fun _ _ _ h => h) ⟨by rfl, ?hy5128⟩ (by assumption) ?rest5128
            case hy5128 => (intro wq hSw; (try simp only [Two, Kn, Facts, CellsAt] at hSw); go_simp; try with_reducible rfl)
            try simp only [Act.put, sa7, sb7, sc7]
            refine wpAnyH_done (by kernel_rfl) ?_ _
            go_wp2_with fail
            go_meet
            case rel => exact ⟨_, rfl, rfl, (by omega), (by repeat (first | with_reducible exact Blk.new _ _ _ | with_reducible exact U5 | with_reducible refine Blk.put4 (x := .bool false) (y := .int .u64 0) (z := .int .u64 0) (q := .int .i64 0) ?_ _ _ _ _)), hHeld⟩
  case rest =>
    obtain ⟨X, rfl, rfl, hX, N, R⟩ := hcut
    obtain ⟨x0, x1, x2, x3, x4, x5, x6, x7, x8⟩ := N.four
    obtain ⟨r0, r1, r2, r3, r4, r5, r6, r7, r8⟩ := R.2.1.1.four
    have B := R.bel
    have ne1 : ¬ X = w.heap.size := by omega
    clear R0 R N LT hs0 OF BK
    go_wp2
    refine bodyPost_ret (v := pv v rh rl k) (by simp [results, Tryz.results85, go_sem, World.cell?_setCell_same', World.cell?_setCell_other, *]) rfl ⟨rfl, by repeat (first | with_reducible exact Below.refl _ _ | with_reducible refine Below.drew ?_ | with_reducible refine Below.alloc ?_ (by first | omega | (simp <;> omega)) _ | with_reducible refine Below.setCell ?_ (by first | omega | (simp <;> omega)) _ | with_reducible refine Below.trans ?_ (Below.mono B (by first | omega | (simp <;> omega))))⟩

/-- block: the one of a number. -/
theorem sblock_c {v : Bool} {h l b k rh rl cu : Int} {a x n N i : Nat} (O : SetOf v h l b k n N) (hi : i < N) (hr : IsNum rh rl (blkN v n k i)) (w : World)
    (hx : Blk w x #[.bool v, .int .u64 h, .int .u64 l, .int .i64 b, .int .i64 k, .pointer (some ⟨a, 0, none⟩), .int .i64 cu] 115) :
    Calls Tryz.prog 85 #[.pointer (some ⟨x, 0, none⟩), .int .i64 i] w fun e w' => e = .returned (pv v rh rl k) ∧ Below w.heap.size w w' := by
  have le := O.small
  have ii : IsNum 0 (i : Int) i := ⟨by omega, by omega, by omega, by omega, by omega⟩
  exact sblock_w (by simp [IntKind.wrap, IntKind.bits, IntKind.signed]; omega) (fun w' => block_ok O.num ii O.cut (by rw [O.len]; exact hi) hr w') w hx

theorem small_num {i : Nat} (hi : i < 65536) {h l : Int} (x : IsNum h l i) : l = (i : Int) ∧ IntKind.i64.wrap l = (i : Int) := by
  obtain ⟨x1, x2, x3, x4, x5⟩ := x
  have e : l = (i : Int) := by omega
  refine ⟨e, ?_⟩
  rw [e]
  simp [IntKind.wrap, IntKind.bits, IntKind.signed]
  omega

/-- span: the numbers of the first and the last block that overlap. -/
theorem sspan_ok {v : Bool} {h l b k qh ql c cu : Int} {a x n m N : Nat} (O : SetOf v h l b k n N) (hq : IsNum qh ql m) (hq0 : okP v m c = true) (ho : overB v n b v m c = true) (w : World)
    (hx : Blk w x #[.bool v, .int .u64 h, .int .u64 l, .int .i64 b, .int .i64 k, .pointer (some ⟨a, 0, none⟩), .int .i64 cu] 115) :
    Calls Tryz.prog 84 #[.pointer (some ⟨x, 0, none⟩), pv v qh ql c] w fun e w' => e = .returned (.tuple #[.int .i64 (spA v n b k m c : Nat), .int .i64 (spZ v n b k m c : Nat), .int .i64 0]) ∧ Below w.heap.size w w' := by
  obtain ⟨s1, s2, _⟩ := sp_facts O.cut hq0 ho O.num.lt hq.lt
  rw [O.len] at s2
  have le := O.small
  obtain ⟨fh, fl, hf⟩ := IsNum.ex (n := spA v n b k m c) (by omega)
  obtain ⟨gh, gl, hg⟩ := IsNum.ex (n := spZ v n b k m c) (by omega)
  exact sspan_w (small_num (by omega) hf).2 (small_num (by omega) hg).2 (fun w' => span_c O.num hq O.cut hq0 ho hf hg w') w hx

theorem sspan_err {v u : Bool} {h l b k qh ql c cu E : Int} {a x n m N : Nat} (O : SetOf v h l b k n N) (hq : IsNum qh ql m) (hE : qE v n b u m c = E) (h0 : ¬ E = 0) (w : World)
    (hx : Blk w x #[.bool v, .int .u64 h, .int .u64 l, .int .i64 b, .int .i64 k, .pointer (some ⟨a, 0, none⟩), .int .i64 cu] 115) :
    Calls Tryz.prog 84 #[.pointer (some ⟨x, 0, none⟩), pv u qh ql c] w fun e w' => e = .returned (.tuple #[.int .i64 0, .int .i64 0, .int .i64 E]) ∧ Below w.heap.size w w' := by
  refine sspan_w (fh := 0) (fl := 0) (gh := 0) (gl := 0) (by decide) (by decide) (fun w' => ?_) w hx
  subst hE
  cases hq0 : okP u m c
  · have e : qE v n b u m c = 1 := by unfold qE; rw [hq0]; rfl
    rw [e]
    exact span_a2 O.num hq O.cut hq0 w'
  · cases ho : overB v n b u m c
    · have e : qE v n b u m c = 12 := by unfold qE; rw [hq0, ho]; rfl
      rw [e]
      exact span_ra O.num hq O.cut hq0 ho w'
    · exact absurd (by unfold qE; rw [hq0, ho]; rfl) h0

theorem qE_is {v u : Bool} {n m : Nat} {b c : Int} : (qE v n b u m c = 0 ∧ u = v ∧ okP v m c = true ∧ overB v n b v m c = true) ∨ (¬ qE v n b u m c = 0 ∧ (okP u m c = false ∨ overB v n b u m c = false)) := by
  cases hq0 : okP u m c
  · exact Or.inr ⟨by unfold qE; rw [hq0]; simp, Or.inl rfl⟩
  · cases ho : overB v n b u m c
    · exact Or.inr ⟨by unfold qE; rw [hq0, ho]; simp, Or.inr rfl⟩
    · obtain rfl := over_fam ho
      exact Or.inl ⟨by unfold qE; rw [hq0, ho]; rfl, rfl, hq0, ho⟩

theorem sq_start {v u : Bool} {h l b k qh ql c cu : Int} {a x : Nat} (w : World) (hx : Blk w x #[.bool v, .int .u64 h, .int .u64 l, .int .i64 b, .int .i64 k, .pointer (some ⟨a, 0, none⟩), .int .i64 cu] 115) : Kn w [(w.heap.size, [.bool u, .int .u64 qh, .int .u64 ql, .int .i64 c], 28), (x, [.bool v, .int .u64 h, .int .u64 l, .int .i64 b, .int .i64 k, .pointer (some ⟨a, 0, none⟩), .int .i64 cu], 115)] (w.alloc (.cells #[.bool u, .int .u64 qh, .int .u64 ql, .int .i64 c] 28)) := ((Kn.nil w).cons hx).push rfl

set_option maxHeartbeats 1600000 in
theorem occ_err {v u : Bool} {h l b k qh ql c E : Int} {a x g n m N cu : Nat} {f : Nat → Bool} (O : SetOf v h l b k n N) (hq : IsNum qh ql m) (hE : qE v n b u m c = E) (h0 : ¬ E = 0) (w : World) (P : SetAt w v h l b k x a g N f cu) :
    Calls Tryz.prog 43 #[.pointer (some ⟨x, 0, none⟩), pv u qh ql c] w fun e w' => e = .returned (.tuple #[.int .i64 0, .int .i64 E]) ∧ Below w.heap.size w w' := by
  have K := hide (sq_start (u := u) (qh := qh) (ql := ql) (c := c) w P.hd)
  have SP := hide (sspan_err O hq hE h0 _ K.out.2.1.2.1)
  clear O hq hE P
  go_enter Tryz.func43, Tryz.ntmps43
  go_wp2_with fail
  refine SP.out.mono ?_
  rintro e w1 ⟨rfl, hb⟩
  have B := (K.out.below hb).bel
  clear SP hb K
  go_wp2
  go_ret2
  exact ⟨rfl, B⟩

set_option maxHeartbeats 1600000 in
theorem rel_err {v u : Bool} {h l b k qh ql c E : Int} {a x g n m N cu : Nat} {f : Nat → Bool} (O : SetOf v h l b k n N) (hq : IsNum qh ql m) (hE : qE v n b u m c = E) (h0 : ¬ E = 0) (w : World) (P : SetAt w v h l b k x a g N f cu) :
    Calls Tryz.prog 49 #[.pointer (some ⟨x, 0, none⟩), pv u qh ql c] w fun e w' => e = .returned (.tuple #[.int .i64 0, .int .i64 E]) ∧ Below w.heap.size w w' := by
  have K := hide (sq_start (u := u) (qh := qh) (ql := ql) (c := c) w P.hd)
  have SP := hide (sspan_err O hq hE h0 _ K.out.2.1.2.1)
  clear O hq hE P
  go_enter Tryz.func49, Tryz.ntmps49
  go_wp2_with fail
  refine SP.out.mono ?_
  rintro e w1 ⟨rfl, hb⟩
  have B := (K.out.below hb).bel
  clear SP hb K
  go_wp2
  go_ret2
  exact ⟨rfl, B⟩

set_option maxHeartbeats 1600000 in
theorem occ_ok {v : Bool} {h l b k qh ql c C : Int} {a x g n m N cu : Nat} {f f' : Nat → Bool} (O : SetOf v h l b k n N) (hq : IsNum qh ql m) (hq0 : okP v m c = true) (ho : overB v n b v m c = true) (hf : setO v n k N v m c true f = f') (hC : cntO f f' = C) (w : World) (P : SetAt w v h l b k x a g N f cu) :
    Calls Tryz.prog 43 #[.pointer (some ⟨x, 0, none⟩), pv v qh ql c] w fun e w' => e = .returned (.tuple #[.int .i64 C, .int .i64 0]) ∧ SetAt w' v h l b k x a g N f' cu ∧ But [g] w.heap.size w w' := by
  obtain ⟨s1, s2, _⟩ := sp_facts O.cut hq0 ho O.num.lt hq.lt
  rw [O.len] at s2
  rw [setO_row O.cut O.len hq0 ho O.num.lt hq.lt] at hf
  have K := hide (sq_start (u := v) (qh := qh) (ql := ql) (c := c) w P.hd)
  have SP := hide (sspan_ok O hq hq0 ho _ K.out.2.1.2.1)
  have le := O.small
  obtain ⟨A, hA⟩ : ∃ A, spA v n b k m c = A := ⟨_, rfl⟩
  obtain ⟨Z, hZ⟩ : ∃ Z, spZ v n b k m c = Z := ⟨_, rfl⟩
  rw [hA, hZ] at SP hf s1
  rw [hZ] at s2
  subst hf hC
  have PH := hide P
  have FL := hide (fun w' H => fill_ok a g N A Z f s1 s2 w' H)
  clear O hq hq0 ho P hA hZ
  go_enter Tryz.func43, Tryz.ntmps43
  go_wp2_with fail
  refine SP.out.mono ?_
  rintro e w1 ⟨rfl, hb⟩
  have B1 := hide (K.out.below hb).bel
  have P1 := hide (PH.out.below B1.out)
  obtain ⟨x0, x1, x2, x3, x4, x5, x6, xl⟩ := P1.out.hd.seven
  have F1 := hide (FL.out _ P1.out.m)
  clear SP hb K PH FL
  go_wp2_with fail
  refine F1.out.mono ?_
  rintro e w2 ⟨rfl, hM, hK⟩
  have P2 := hide (P1.out.turn hM hK)
  have B2 := hide ((But.of (L := [g]) B1.out (Nat.le_refl _)).trans (hK.mono B1.out.size (fun y hy _ => hy)))
  clear F1 hM hK P1 B1 x0 x1 x2 x3 x4 x5 x6
  go_wp2
  go_ret2
  exact ⟨rfl, P2.out, B2.out⟩

set_option maxHeartbeats 1600000 in
theorem rel_ok {v : Bool} {h l b k qh ql c C : Int} {a x g n m N cu : Nat} {f f' : Nat → Bool} (O : SetOf v h l b k n N) (hq : IsNum qh ql m) (hq0 : okP v m c = true) (ho : overB v n b v m c = true) (hf : setO v n k N v m c false f = f') (hC : cntO f f' = C) (w : World) (P : SetAt w v h l b k x a g N f cu) :
    Calls Tryz.prog 49 #[.pointer (some ⟨x, 0, none⟩), pv v qh ql c] w fun e w' => e = .returned (.tuple #[.int .i64 C, .int .i64 0]) ∧ SetAt w' v h l b k x a g N f' cu ∧ But [g] w.heap.size w w' := by
  obtain ⟨s1, s2, _⟩ := sp_facts O.cut hq0 ho O.num.lt hq.lt
  rw [O.len] at s2
  rw [setO_row O.cut O.len hq0 ho O.num.lt hq.lt] at hf
  have K := hide (sq_start (u := v) (qh := qh) (ql := ql) (c := c) w P.hd)
  have SP := hide (sspan_ok O hq hq0 ho _ K.out.2.1.2.1)
  have le := O.small
  obtain ⟨A, hA⟩ : ∃ A, spA v n b k m c = A := ⟨_, rfl⟩
  obtain ⟨Z, hZ⟩ : ∃ Z, spZ v n b k m c = Z := ⟨_, rfl⟩
  rw [hA, hZ] at SP hf s1
  rw [hZ] at s2
  subst hf hC
  have PH := hide P
  have FL := hide (fun w' H => clear_ok a g N A Z f s1 s2 w' H)
  clear O hq hq0 ho P hA hZ
  go_enter Tryz.func49, Tryz.ntmps49
  go_wp2_with fail
  refine SP.out.mono ?_
  rintro e w1 ⟨rfl, hb⟩
  have B1 := hide (K.out.below hb).bel
  have P1 := hide (PH.out.below B1.out)
  obtain ⟨x0, x1, x2, x3, x4, x5, x6, xl⟩ := P1.out.hd.seven
  have F1 := hide (FL.out _ P1.out.m)
  clear SP hb K PH FL
  go_wp2_with fail
  refine F1.out.mono ?_
  rintro e w2 ⟨rfl, hM, hK⟩
  have P2 := hide (P1.out.turn hM hK)
  have B2 := hide ((But.of (L := [g]) B1.out (Nat.le_refl _)).trans (hK.mono B1.out.size (fun y hy _ => hy)))
  clear F1 hM hK P1 B1 x0 x1 x2 x3 x4 x5 x6
  go_wp2
  go_ret2
  exact ⟨rfl, P2.out, B2.out⟩

theorem occ_c {v u : Bool} {h l b k qh ql c C E : Int} {a x g n m N cu : Nat} {f f' : Nat → Bool} (O : SetOf v h l b k n N) (hq : IsNum qh ql m) (hf : setO v n k N u m c true f = f') (hC : cntO f f' = C) (hE : qE v n b u m c = E) (w : World) (P : SetAt w v h l b k x a g N f cu) :
    Calls Tryz.prog 43 #[.pointer (some ⟨x, 0, none⟩), pv u qh ql c] w fun e w' => e = .returned (.tuple #[.int .i64 C, .int .i64 E]) ∧ SetAt w' v h l b k x a g N f' cu ∧ But [g] w.heap.size w w' := by
  rcases qE_is (v := v) (u := u) (n := n) (m := m) (b := b) (c := c) with ⟨h1, rfl, h2, h3⟩ | ⟨h1, h2⟩
  · rw [h1] at hE
    subst hE
    exact occ_ok O hq h2 h3 hf hC w P
  · rw [setO_none O.cut O.len O.num.lt hq.lt h2] at hf
    subst hf
    rw [cntO_same] at hC
    subst hC
    refine (occ_err O hq hE (by rw [← hE]; exact h1) w P).mono ?_
    rintro e w' ⟨rfl, hb⟩
    exact ⟨rfl, P.below hb, But.of hb (Nat.le_refl _)⟩

theorem rel_c {v u : Bool} {h l b k qh ql c C E : Int} {a x g n m N cu : Nat} {f f' : Nat → Bool} (O : SetOf v h l b k n N) (hq : IsNum qh ql m) (hf : setO v n k N u m c false f = f') (hC : cntO f f' = C) (hE : qE v n b u m c = E) (w : World) (P : SetAt w v h l b k x a g N f cu) :
    Calls Tryz.prog 49 #[.pointer (some ⟨x, 0, none⟩), pv u qh ql c] w fun e w' => e = .returned (.tuple #[.int .i64 C, .int .i64 E]) ∧ SetAt w' v h l b k x a g N f' cu ∧ But [g] w.heap.size w w' := by
  rcases qE_is (v := v) (u := u) (n := n) (m := m) (b := b) (c := c) with ⟨h1, rfl, h2, h3⟩ | ⟨h1, h2⟩
  · rw [h1] at hE
    subst hE
    exact rel_ok O hq h2 h3 hf hC w P
  · rw [setO_none O.cut O.len O.num.lt hq.lt h2] at hf
    subst hf
    rw [cntO_same] at hC
    subst hC
    refine (rel_err O hq hE (by rw [← hE]; exact h1) w P).mono ?_
    rintro e w' ⟨rfl, hb⟩
    exact ⟨rfl, P.below hb, But.of hb (Nat.le_refl _)⟩

end Go.Proofs.YtllidkflgjjkfaaGreatDoor

/-
  The fourth law's own examples hold: awake returns true.
-/
import Derived.Test.YtmhnfgfdggjdhaaGreatDoorPfx7
import Derived.Test.YtmhnfgfdggjdhaaGreatDoorCarve1
import Derived.Test.YtmhnfgfdggjdhaaGreatDoorSpread
namespace Go.Proofs.YtmhnfgfdggjdhaaGreatDoor
open Go.ChangeShapes Go.WideShapes Go.ChangeAt Go.RowKit
set_option linter.unusedVariables false
set_option linter.unusedSimpArgs false

theorem parse4_ex : parsePF [49, 48, 46, 48, 46, 48, 46, 48, 47, 56] = some (false, 167772160, 8) := by decide +kernel

theorem print4_ex1 : prP false 167837952 24 = ⟨#[49, 48, 46, 49, 46, 49, 46, 48, 47, 50, 52]⟩ := by decide +kernel

theorem print4_ex2 : prP false 167772162 31 = ⟨#[49, 48, 46, 48, 46, 48, 46, 50, 47, 51, 49]⟩ := by decide +kernel

theorem cut4_ex : cutB false 167772160 8 24 = true := by decide +kernel

theorem blk4_ex : blkN false 167772160 24 257 = 167837952 := by decide +kernel

theorem spread4_ex : spL 167772161 167772164 32 0 = [(167772161, 0), (167772162, 1), (167772164, 0)] := by decide +kernel

set_option maxHeartbeats 400000 in
theorem v4_c (n : Int) (h0 : 0 ≤ n) (h1 : n < 4294967296) (w : World) :
    Calls Tryz.prog 69 #[.int .u32 n] w fun e w' => e = .returned (av false 0 n) ∧ Below w.heap.size w w' := by
  have O : Hid (∀ w', Calls Tryz.prog 47 #[.int .u64 n] w' fun e w1 => e = .returned (nv 0 n) ∧ Below w'.heap.size w' w1) := fun w' => of_w n w'
  have hw1 : IntKind.u64.wrap n = n := by simp [IntKind.wrap, IntKind.bits, IntKind.signed]; omega
  clear h0 h1
  go_enter Tryz.func69, Tryz.ntmps69
  go_wp2_with fail
  refine (O.out _).mono ?_
  rintro e w1 ⟨rfl, hb1⟩
  obtain ⟨hc1, hf1⟩ := bcell hb1
  have hz_w1_0 : w.heap.size < w1.heap.size   := (by have := hb1.size; first | omega | (simp at this; omega))
  clear O
  go_wp2
  refine bodyPost_ret (v := av false 0 n) (by simp [results, Tryz.results69, go_sem, World.cell?_setCell_same', World.cell?_setCell_other, *]) rfl ⟨rfl, by repeat (first | with_reducible exact Below.refl _ _ | with_reducible refine Below.drew ?_ | with_reducible refine Below.alloc ?_ (by first | omega | (simp <;> omega)) _ | with_reducible refine Below.setCell ?_ (by first | omega | (simp <;> omega)) _ | with_reducible refine Below.trans ?_ (Below.mono hb1 (by first | omega | (simp <;> omega))))⟩

theorem add_at (g j : Nat) : (⟨g, 0, none⟩ : Addr).add j = ⟨g, j, none⟩ := by
  unfold Addr.add
  split <;> simp_all

/-- What awake keeps: the parsed prefix. -/
def AW (w : World) (B : Nat) (wx : World) : Prop :=
  (wx.cell? ⟨B, 0, none⟩ = some (.bool false) ∧ wx.cell? ⟨B, 1, none⟩ = some (.int .u64 0) ∧ wx.cell? ⟨B, 2, none⟩ = some (.int .u64 167772160) ∧ wx.cell? ⟨B, 3, none⟩ = some (.int .i64 8)) ∧ Blk wx B #[.bool false, .int .u64 0, .int .u64 167772160, .int .i64 8] 28 ∧ Below w.heap.size w wx

theorem AW.of {w : World} {B : Nat} {wx : World} (x : Blk wx B #[.bool false, .int .u64 0, .int .u64 167772160, .int .i64 8] 28) (y : Below w.heap.size w wx) : AW w B wx := ⟨⟨x.cell 0, x.cell 1, x.cell 2, x.cell 3⟩, x, y⟩

theorem AW.drew {w : World} {B : Nat} {wx : World} (s : AW w B wx) : AW w B wx.drew := AW.of s.2.1 s.2.2.drew

theorem AW.below {w : World} {B : Nat} {wx w1 : World} (s : AW w B wx) (hb : Below wx.heap.size wx w1) : AW w B w1 := AW.of (s.2.1.below hb) (s.2.2.trans (hb.mono s.2.2.size))

theorem AW.alloc {w : World} {B : Nat} {wx : World} (s : AW w B wx) (o : Obj) : AW w B (wx.alloc o) := AW.of (s.2.1.alloc o) (s.2.2.alloc s.2.2.size o)

theorem AW.far {w : World} {B D : Nat} {wx : World} (s : AW w B wx) (hd : B < D ∧ w.heap.size ≤ D) (x y z u : Value) : AW w B ((((wx.setCell ⟨D, 0, none⟩ x).setCell ⟨D, 1, none⟩ y).setCell ⟨D, 2, none⟩ z).setCell ⟨D, 3, none⟩ u) :=
  AW.of (s.2.1.far4 (by omega) _ _ _ _) ((((s.2.2.setCell hd.2 _).setCell hd.2 _).setCell hd.2 _).setCell hd.2 _)

set_option maxRecDepth 100000 in
set_option maxHeartbeats 3200000 in
theorem awake4_c (w : World) (hL : LW w) : Calls Tryz.prog 29 #[] w fun e w' => e = .returned (.bool true) ∧ Below w.heap.size w w' := by
  have hz := hL.sz
  have Lx : Hid (∀ W, Below w.heap.size w W → LW W) := fun W hb => hL.of hb hz
  have n1 : IsNum 0 167772160 167772160 := ⟨by omega, by omega, by omega, by omega, rfl⟩
  have n2 : IsNum 0 167837952 167837952 := ⟨by omega, by omega, by omega, by omega, rfl⟩
  have n3 : IsNum 0 257 257 := ⟨by omega, by omega, by omega, by omega, rfl⟩
  have n4 : IsNum 0 167772161 167772161 := ⟨by omega, by omega, by omega, by omega, rfl⟩
  have n5 : IsNum 0 167772164 167772164 := ⟨by omega, by omega, by omega, by omega, rfl⟩
  have n6 : IsNum 0 167772162 167772162 := ⟨by omega, by omega, by omega, by omega, rfl⟩
  have P1 : Hid (∀ w', LW w' → Calls Tryz.prog 25 #[.string ⟨#[49, 48, 46, 48, 46, 48, 46, 48, 47, 56]⟩] w' fun e w1 => e = .returned (.tuple #[pv false 0 167772160 8, .int .i64 0]) ∧ Below w'.heap.size w' w1) := fun w' h => pparse_is _ (by decide) (Or.inl ⟨167772160, 8, parse4_ex, n1, rfl, rfl⟩) w' h
  have O1 : Hid (∀ w', Calls Tryz.prog 47 #[.int .u64 257] w' fun e w1 => e = .returned (nv 0 257) ∧ Below w'.heap.size w' w1) := fun w' => of_w 257 w'
  have K1 : Hid (∀ w', Calls Tryz.prog 32 #[pv false 0 167772160 8, .int .i64 24, nv 0 257] w' fun e w1 => e = .returned (.tuple #[pv false 0 167837952 24, .int .i64 0]) ∧ Below w'.heap.size w' w1) := fun w' => block_ok n1 n3 cut4_ex (by decide) (n2.cast blk4_ex.symm) w'
  have V1 : Hid (∀ w', Calls Tryz.prog 69 #[.int .u32 167772161] w' fun e w1 => e = .returned (av false 0 167772161) ∧ Below w'.heap.size w' w1) := fun w' => v4_c _ (by omega) (by omega) w'
  have V2 : Hid (∀ w', Calls Tryz.prog 69 #[.int .u32 167772164] w' fun e w1 => e = .returned (av false 0 167772164) ∧ Below w'.heap.size w' w1) := fun w' => v4_c _ (by omega) (by omega) w'
  have SP : Hid (∀ w', Calls Tryz.prog 45 #[av false 0 167772161, av false 0 167772164] w' fun e w1 => ∃ val, e = .returned (.tuple #[val, .int .i64 0]) ∧ w1.ownsRow w'.heap.size 28 4 val 3 (cellsL false 32 [(167772161, 0), (167772162, 1), (167772164, 0)]) ∧ Below w'.heap.size w' w1) := fun w' => by
    have := spread_ok (v := false) (W := 32) rfl n4 n5 (by decide) (by decide) (by decide) w'
    rw [spread4_ex] at this
    exact this
  have T1 : Hid (∀ w', LW w' → Calls Tryz.prog 27 #[pv false 0 167837952 24] w' fun e w1 => e = .returned (.string ⟨#[49, 48, 46, 49, 46, 49, 46, 48, 47, 50, 52]⟩) ∧ Below w'.heap.size w' w1) := fun w' h => print4_ex1 ▸ pprint_c n2 w' h
  have T2 : Hid (∀ w', LW w' → Calls Tryz.prog 27 #[pv false 0 167772162 31] w' fun e w1 => e = .returned (.string ⟨#[49, 48, 46, 48, 46, 48, 46, 50, 47, 51, 49]⟩) ∧ Below w'.heap.size w' w1) := fun w' h => print4_ex2 ▸ pprint_c n6 w' h
  clear n1 n2 n3 n4 n5 n6 hL
  go_enter Tryz.func29, Tryz.ntmps29
  go_wp2_with fail
  refine (P1.out _ (Lx.out _ (by repeat (first | with_reducible exact Below.refl _ _ | with_reducible refine Below.drew ?_ | with_reducible refine Below.alloc ?_ (by first | omega | (simp <;> omega)) _ | with_reducible refine Below.setCell ?_ (by first | omega | (simp <;> omega)) _)))).mono ?_
  rintro e w1 ⟨rfl, hb1⟩
  have B1 : Below w.heap.size w w1 := by repeat (first | with_reducible exact Below.refl _ _ | with_reducible refine Below.drew ?_ | with_reducible refine Below.alloc ?_ (by first | omega | (simp <;> omega)) _ | with_reducible refine Below.setCell ?_ (by first | omega | (simp <;> omega)) _ | with_reducible refine Below.trans ?_ (Below.mono hb1 (by first | omega | (simp <;> omega))))
  have R0 : AW w w1.heap.size (w1.alloc (.cells #[.bool false, .int .u64 0, .int .u64 167772160, .int .i64 8] 28)) := AW.of (Blk.new _ _ _) (B1.alloc B1.size _)
  have hs1 := B1.size
  clear P1 hb1 B1
  obtain ⟨w0, hw0⟩ : ∃ w0, w0 = w1.alloc (.cells #[.bool false, .int .u64 0, .int .u64 167772160, .int .i64 8] 28) := ⟨_, rfl⟩
  rw [← hw0] at R0
  have hs0 := R0.2.1.lt
  have hs2 := R0.2.2.size
  go_upto_region 2 with fail
  rw [← hw0]
  clear hw0
  go_cut [3, 4] (fun p t wc => ∃ X : Nat, p = .pointer (some ⟨X, 0, none⟩) ∧ t = .int .i64 0 ∧ Blk wc X #[.bool false, .int .u64 0, .int .u64 167837952, .int .i64 24] 28 ∧ AW w w1.heap.size wc)
  case first =>
    refine wp_region_held_drew (S := (AW w w1.heap.size)) (by kernel_rfl) ?hS5001 (fun hHeld => ?rest5001)
    case hS5001 => (first | with_reducible exact R0.drew | with_reducible exact (R0.alloc _).drew | with_reducible exact hHeld.below hb4 | with_reducible exact hHeld.below hb5 | with_reducible exact hHeld.alloc _ | with_reducible exact K5.alloc _ | with_reducible exact hHeld.far (by omega) _ _ _ _ | with_reducible exact K5.far (by omega) _ _ _ _ | with_reducible exact (K5.alloc _).far (by omega) _ _ _ _)
    refine wpAnyH_take (i := 0) (oi := _) (v := ?v5002) (List.getElem?_toArray.trans rfl) (by kernel_rfl) (by kernel_rfl) (by kernel_rfl) (fun _ _ _ h => h) (Or.inl ⟨by rfl, ?hy5002⟩) (by assumption) ?rest5002
    case hy5002 => (intro wq hSw; (try simp only [Two, AW] at hSw); go_simp; try with_reducible rfl)
    try simp only [Act.put, List.setIfInBounds_toArray, List.set_cons_zero, List.set_cons_succ]
    refine wpAnyH_ready (rs := [1, 6]) (by kernel_rfl) (by simp) ?rdy5003
    refine (AllReadyH.cons (List.getElem?_toArray.trans rfl) (fun K hK => ?stp5003_1) (AllReadyH.cons (List.getElem?_toArray.trans rfl) (fun K hK => ?stp5003_6) AllReadyH.nil))
    case stp5003_1 =>
      go_simp
      go_wp2_with fail
      (refine (O1.out _).mono ?_; rintro e w4 ⟨rfl, hb4⟩; have s4 : w0.heap.size ≤ w4.heap.size := (by have := hb4.size; first | exact this | (simp at this; omega)); first | (have U4 : Blk w4 w0.heap.size #[.bool false, .int .u64 0, .int .u64 0, .int .i64 0] 28 := Blk.via hb4 (Blk.new w0 #[.bool false, .int .u64 0, .int .u64 0, .int .i64 0] 28) rfl; obtain ⟨u0, u1, u2, u3, u4, u5, u6, u7, u8⟩ := U4.four) | skip)
      go_wp2_with fail
      refine hK.out _ _ ?hSn5004 (fun hHeld2 => ?rest5004)
      case hSn5004 => (first | with_reducible exact R0.drew | with_reducible exact (R0.alloc _).drew | with_reducible exact hHeld.below hb4 | with_reducible exact hHeld.below hb5 | with_reducible exact hHeld.alloc _ | with_reducible exact K5.alloc _ | with_reducible exact hHeld.far (by omega) _ _ _ _ | with_reducible exact K5.far (by omega) _ _ _ _ | with_reducible exact (K5.alloc _).far (by omega) _ _ _ _)
      clear hK K hHeld
      have hHeld := hHeld2
      clear hHeld2
      try simp only [Act.put, List.setIfInBounds_toArray, List.set_cons_zero, List.set_cons_succ]
      refine wpAnyH_ready (rs := [2, 6]) (by kernel_rfl) (by simp) ?rdy5005
      refine (AllReadyH.cons (List.getElem?_toArray.trans rfl) (fun K hK => ?stp5005_2) (AllReadyH.cons (List.getElem?_toArray.trans rfl) (fun K hK => ?stp5005_6) AllReadyH.nil))
      case stp5005_2 =>
        go_simp
        go_wp2_with fail
        (refine (K1.out _).mono ?_; rintro e w5 ⟨rfl, hb5⟩; have K5 := hHeld.below hb5; have s5 : w4.heap.size ≤ w5.heap.size := (by have := hb5.size; first | exact this | (simp at this; omega)); first | (have U5 := U4.below hb5; obtain ⟨a0, a1, a2, a3, a4, a5, a6, a7, a8⟩ := U5.four) | (have X5 : Blk w5 w4.heap.size #[.bool false, .int .u64 0, .int .u64 0, .int .i64 0] 28 := Blk.via hb5 (Blk.new w4 #[.bool false, .int .u64 0, .int .u64 0, .int .i64 0] 28) rfl; obtain ⟨p0, p1, p2, p3, p4, p5, p6, p7, p8⟩ := X5.four) | skip)
        go_wp2_with fail
        refine hK.out _ _ ?hSn5006 (fun hHeld2 => ?rest5006)
        case hSn5006 => (first | with_reducible exact R0.drew | with_reducible exact (R0.alloc _).drew | with_reducible exact hHeld.below hb4 | with_reducible exact hHeld.below hb5 | with_reducible exact hHeld.alloc _ | with_reducible exact K5.alloc _ | with_reducible exact hHeld.far (by omega) _ _ _ _ | with_reducible exact K5.far (by omega) _ _ _ _ | with_reducible exact (K5.alloc _).far (by omega) _ _ _ _)
        clear hK K hHeld
        have hHeld := hHeld2
        clear hHeld2
        try simp only [Act.put, List.setIfInBounds_toArray, List.set_cons_zero, List.set_cons_succ]
        refine wpAnyH_take (i := 3) (oi := _) (v := ?v5007) (List.getElem?_toArray.trans rfl) (by kernel_rfl) (by kernel_rfl) (by kernel_rfl) (fun _ _ _ h => h) (Or.inl ⟨by rfl, ?hy5007⟩) (by assumption) ?rest5007
        case hy5007 => (intro wq hSw; (try simp only [Two, AW] at hSw); go_simp; try with_reducible rfl)
        try simp only [Act.put, List.setIfInBounds_toArray, List.set_cons_zero, List.set_cons_succ]
        refine wpAnyH_take (i := 4) (oi := _) (v := ?v5008) (List.getElem?_toArray.trans rfl) (by kernel_rfl) (by kernel_rfl) (by kernel_rfl) (fun _ _ _ h => h) (Or.inl ⟨by rfl, ?hy5008⟩) (by assumption) ?rest5008
        case hy5008 => (intro wq hSw; (try simp only [Two, AW] at hSw); go_simp; try with_reducible rfl)
        try simp only [Act.put, List.setIfInBounds_toArray, List.set_cons_zero, List.set_cons_succ]
        refine wpAnyH_take (i := 5) (oi := _) (v := ?v5009) (List.getElem?_toArray.trans rfl) (by kernel_rfl) (by kernel_rfl) (by kernel_rfl) (fun _ _ _ h => h) (Or.inl ⟨by rfl, ?hy5009⟩) (by assumption) ?rest5009
        case hy5009 => (intro wq hSw; (try simp only [Two, AW] at hSw); go_simp; try with_reducible rfl)
        try simp only [Act.put, List.setIfInBounds_toArray, List.set_cons_zero, List.set_cons_succ]
        refine wpAnyH_ready (rs := [6]) (by kernel_rfl) (by simp) ?rdy5010
        refine (AllReadyH.cons (List.getElem?_toArray.trans rfl) (fun K hK => ?stp5010_6) AllReadyH.nil)
        case stp5010_6 =>
          go_simp
          go_wp2_with fail
          refine hK.out _ _ ?hSn5011 (fun hHeld2 => ?rest5011)
          case hSn5011 => (first | with_reducible exact R0.drew | with_reducible exact (R0.alloc _).drew | with_reducible exact hHeld.below hb4 | with_reducible exact hHeld.below hb5 | with_reducible exact hHeld.alloc _ | with_reducible exact K5.alloc _ | with_reducible exact hHeld.far (by omega) _ _ _ _ | with_reducible exact K5.far (by omega) _ _ _ _ | with_reducible exact (K5.alloc _).far (by omega) _ _ _ _)
          clear hK K hHeld
          have hHeld := hHeld2
          clear hHeld2
          try simp only [Act.put, List.setIfInBounds_toArray, List.set_cons_zero, List.set_cons_succ]
          refine wpAnyH_ready (rs := [7]) (by kernel_rfl) (by simp) ?rdy5012
          refine (AllReadyH.cons (List.getElem?_toArray.trans rfl) (fun K hK => ?stp5012_7) AllReadyH.nil)
          case stp5012_7 =>
            go_simp
            go_wp2_with fail
            refine hK.out _ _ ?hSn5013 (fun hHeld2 => ?rest5013)
            case hSn5013 => (first | with_reducible exact R0.drew | with_reducible exact (R0.alloc _).drew | with_reducible exact hHeld.below hb4 | with_reducible exact hHeld.below hb5 | with_reducible exact hHeld.alloc _ | with_reducible exact K5.alloc _ | with_reducible exact hHeld.far (by omega) _ _ _ _ | with_reducible exact K5.far (by omega) _ _ _ _ | with_reducible exact (K5.alloc _).far (by omega) _ _ _ _)
            clear hK K hHeld
            have hHeld := hHeld2
            clear hHeld2
            try simp only [Act.put, List.setIfInBounds_toArray, List.set_cons_zero, List.set_cons_succ]
            refine wpAnyH_take (i := 8) (oi := _) (v := ?v5014) (List.getElem?_toArray.trans rfl) (by kernel_rfl) (by kernel_rfl) (by kernel_rfl) (fun _ _ _ h => h) (Or.inl ⟨by rfl, ?hy5014⟩) (by assumption) ?rest5014
            case hy5014 => (intro wq hSw; (try simp only [Two, AW] at hSw); go_simp; try with_reducible rfl)
            try simp only [Act.put, List.setIfInBounds_toArray, List.set_cons_zero, List.set_cons_succ]
            refine wpAnyH_done (by kernel_rfl) ?_ _
            go_wp2_with fail
            go_meet
            case rel => exact ⟨_, rfl, rfl, (by repeat (first | with_reducible exact Blk.new _ _ _ | with_reducible exact U5 | with_reducible exact X5 | with_reducible refine Blk.put4 (x := .bool false) (y := .int .u64 0) (z := .int .u64 0) (q := .int .i64 0) ?_ _ _ _ _)), hHeld⟩
      case stp5005_6 =>
        go_simp
        go_wp2_with fail
        refine hK.out _ _ ?hSn5015 (fun hHeld2 => ?rest5015)
        case hSn5015 => (first | with_reducible exact R0.drew | with_reducible exact (R0.alloc _).drew | with_reducible exact hHeld.below hb4 | with_reducible exact hHeld.below hb5 | with_reducible exact hHeld.alloc _ | with_reducible exact K5.alloc _ | with_reducible exact hHeld.far (by omega) _ _ _ _ | with_reducible exact K5.far (by omega) _ _ _ _ | with_reducible exact (K5.alloc _).far (by omega) _ _ _ _)
        clear hK K hHeld
        have hHeld := hHeld2
        clear hHeld2
        try simp only [Act.put, List.setIfInBounds_toArray, List.set_cons_zero, List.set_cons_succ]
        refine wpAnyH_ready (rs := [2]) (by kernel_rfl) (by simp) ?rdy5016
        refine (AllReadyH.cons (List.getElem?_toArray.trans rfl) (fun K hK => ?stp5016_2) AllReadyH.nil)
        case stp5016_2 =>
          go_simp
          go_wp2_with fail
          (refine (K1.out _).mono ?_; rintro e w5 ⟨rfl, hb5⟩; have K5 := hHeld.below hb5; have s5 : w4.heap.size ≤ w5.heap.size := (by have := hb5.size; first | exact this | (simp at this; omega)); first | (have U5 := U4.below hb5; obtain ⟨a0, a1, a2, a3, a4, a5, a6, a7, a8⟩ := U5.four) | (have X5 : Blk w5 w4.heap.size #[.bool false, .int .u64 0, .int .u64 0, .int .i64 0] 28 := Blk.via hb5 (Blk.new w4 #[.bool false, .int .u64 0, .int .u64 0, .int .i64 0] 28) rfl; obtain ⟨p0, p1, p2, p3, p4, p5, p6, p7, p8⟩ := X5.four) | skip)
          go_wp2_with fail
          refine hK.out _ _ ?hSn5017 (fun hHeld2 => ?rest5017)
          case hSn5017 => (first | with_reducible exact R0.drew | with_reducible exact (R0.alloc _).drew | with_reducible exact hHeld.below hb4 | with_reducible exact hHeld.below hb5 | with_reducible exact hHeld.alloc _ | with_reducible exact K5.alloc _ | with_reducible exact hHeld.far (by omega) _ _ _ _ | with_reducible exact K5.far (by omega) _ _ _ _ | with_reducible exact (K5.alloc _).far (by omega) _ _ _ _)
          clear hK K hHeld
          have hHeld := hHeld2
          clear hHeld2
          try simp only [Act.put, List.setIfInBounds_toArray, List.set_cons_zero, List.set_cons_succ]
          refine wpAnyH_take (i := 3) (oi := _) (v := ?v5018) (List.getElem?_toArray.trans rfl) (by kernel_rfl) (by kernel_rfl) (by kernel_rfl) (fun _ _ _ h => h) (Or.inl ⟨by rfl, ?hy5018⟩) (by assumption) ?rest5018
          case hy5018 => (intro wq hSw; (try simp only [Two, AW] at hSw); go_simp; try with_reducible rfl)
          try simp only [Act.put, List.setIfInBounds_toArray, List.set_cons_zero, List.set_cons_succ]
          refine wpAnyH_take (i := 4) (oi := _) (v := ?v5019) (List.getElem?_toArray.trans rfl) (by kernel_rfl) (by kernel_rfl) (by kernel_rfl) (fun _ _ _ h => h) (Or.inl ⟨by rfl, ?hy5019⟩) (by assumption) ?rest5019
          case hy5019 => (intro wq hSw; (try simp only [Two, AW] at hSw); go_simp; try with_reducible rfl)
          try simp only [Act.put, List.setIfInBounds_toArray, List.set_cons_zero, List.set_cons_succ]
          refine wpAnyH_take (i := 5) (oi := _) (v := ?v5020) (List.getElem?_toArray.trans rfl) (by kernel_rfl) (by kernel_rfl) (by kernel_rfl) (fun _ _ _ h => h) (Or.inl ⟨by rfl, ?hy5020⟩) (by assumption) ?rest5020
          case hy5020 => (intro wq hSw; (try simp only [Two, AW] at hSw); go_simp; try with_reducible rfl)
          try simp only [Act.put, List.setIfInBounds_toArray, List.set_cons_zero, List.set_cons_succ]
          refine wpAnyH_ready (rs := [7]) (by kernel_rfl) (by simp) ?rdy5021
          refine (AllReadyH.cons (List.getElem?_toArray.trans rfl) (fun K hK => ?stp5021_7) AllReadyH.nil)
          case stp5021_7 =>
            go_simp
            go_wp2_with fail
            refine hK.out _ _ ?hSn5022 (fun hHeld2 => ?rest5022)
            case hSn5022 => (first | with_reducible exact R0.drew | with_reducible exact (R0.alloc _).drew | with_reducible exact hHeld.below hb4 | with_reducible exact hHeld.below hb5 | with_reducible exact hHeld.alloc _ | with_reducible exact K5.alloc _ | with_reducible exact hHeld.far (by omega) _ _ _ _ | with_reducible exact K5.far (by omega) _ _ _ _ | with_reducible exact (K5.alloc _).far (by omega) _ _ _ _)
            clear hK K hHeld
            have hHeld := hHeld2
            clear hHeld2
            try simp only [Act.put, List.setIfInBounds_toArray, List.set_cons_zero, List.set_cons_succ]
            refine wpAnyH_take (i := 8) (oi := _) (v := ?v5023) (List.getElem?_toArray.trans rfl) (by kernel_rfl) (by kernel_rfl) (by kernel_rfl) (fun _ _ _ h => h) (Or.inl ⟨by rfl, ?hy5023⟩) (by assumption) ?rest5023
            case hy5023 => (intro wq hSw; (try simp only [Two, AW] at hSw); go_simp; try with_reducible rfl)
            try simp only [Act.put, List.setIfInBounds_toArray, List.set_cons_zero, List.set_cons_succ]
            refine wpAnyH_done (by kernel_rfl) ?_ _
            go_wp2_with fail
            go_meet
            case rel => exact ⟨_, rfl, rfl, (by repeat (first | with_reducible exact Blk.new _ _ _ | with_reducible exact U5 | with_reducible exact X5 | with_reducible refine Blk.put4 (x := .bool false) (y := .int .u64 0) (z := .int .u64 0) (q := .int .i64 0) ?_ _ _ _ _)), hHeld⟩
    case stp5003_6 =>
      go_simp
      go_wp2_with fail
      refine hK.out _ _ ?hSn5024 (fun hHeld2 => ?rest5024)
      case hSn5024 => (first | with_reducible exact R0.drew | with_reducible exact (R0.alloc _).drew | with_reducible exact hHeld.below hb4 | with_reducible exact hHeld.below hb5 | with_reducible exact hHeld.alloc _ | with_reducible exact K5.alloc _ | with_reducible exact hHeld.far (by omega) _ _ _ _ | with_reducible exact K5.far (by omega) _ _ _ _ | with_reducible exact (K5.alloc _).far (by omega) _ _ _ _)
      clear hK K hHeld
      have hHeld := hHeld2
      clear hHeld2
      try simp only [Act.put, List.setIfInBounds_toArray, List.set_cons_zero, List.set_cons_succ]
      refine wpAnyH_ready (rs := [1]) (by kernel_rfl) (by simp) ?rdy5025
      refine (AllReadyH.cons (List.getElem?_toArray.trans rfl) (fun K hK => ?stp5025_1) AllReadyH.nil)
      case stp5025_1 =>
        go_simp
        go_wp2_with fail
        (refine (O1.out _).mono ?_; rintro e w4 ⟨rfl, hb4⟩; have s4 : w0.heap.size ≤ w4.heap.size := (by have := hb4.size; first | exact this | (simp at this; omega)); first | (have U4 : Blk w4 w0.heap.size #[.bool false, .int .u64 0, .int .u64 0, .int .i64 0] 28 := Blk.via hb4 (Blk.new w0 #[.bool false, .int .u64 0, .int .u64 0, .int .i64 0] 28) rfl; obtain ⟨u0, u1, u2, u3, u4, u5, u6, u7, u8⟩ := U4.four) | skip)
        go_wp2_with fail
        refine hK.out _ _ ?hSn5026 (fun hHeld2 => ?rest5026)
        case hSn5026 => (first | with_reducible exact R0.drew | with_reducible exact (R0.alloc _).drew | with_reducible exact hHeld.below hb4 | with_reducible exact hHeld.below hb5 | with_reducible exact hHeld.alloc _ | with_reducible exact K5.alloc _ | with_reducible exact hHeld.far (by omega) _ _ _ _ | with_reducible exact K5.far (by omega) _ _ _ _ | with_reducible exact (K5.alloc _).far (by omega) _ _ _ _)
        clear hK K hHeld
        have hHeld := hHeld2
        clear hHeld2
        try simp only [Act.put, List.setIfInBounds_toArray, List.set_cons_zero, List.set_cons_succ]
        refine wpAnyH_ready (rs := [2]) (by kernel_rfl) (by simp) ?rdy5027
        refine (AllReadyH.cons (List.getElem?_toArray.trans rfl) (fun K hK => ?stp5027_2) AllReadyH.nil)
        case stp5027_2 =>
          go_simp
          go_wp2_with fail
          (refine (K1.out _).mono ?_; rintro e w5 ⟨rfl, hb5⟩; have K5 := hHeld.below hb5; have s5 : w4.heap.size ≤ w5.heap.size := (by have := hb5.size; first | exact this | (simp at this; omega)); first | (have U5 := U4.below hb5; obtain ⟨a0, a1, a2, a3, a4, a5, a6, a7, a8⟩ := U5.four) | (have X5 : Blk w5 w4.heap.size #[.bool false, .int .u64 0, .int .u64 0, .int .i64 0] 28 := Blk.via hb5 (Blk.new w4 #[.bool false, .int .u64 0, .int .u64 0, .int .i64 0] 28) rfl; obtain ⟨p0, p1, p2, p3, p4, p5, p6, p7, p8⟩ := X5.four) | skip)
          go_wp2_with fail
          refine hK.out _ _ ?hSn5028 (fun hHeld2 => ?rest5028)
          case hSn5028 => (first | with_reducible exact R0.drew | with_reducible exact (R0.alloc _).drew | with_reducible exact hHeld.below hb4 | with_reducible exact hHeld.below hb5 | with_reducible exact hHeld.alloc _ | with_reducible exact K5.alloc _ | with_reducible exact hHeld.far (by omega) _ _ _ _ | with_reducible exact K5.far (by omega) _ _ _ _ | with_reducible exact (K5.alloc _).far (by omega) _ _ _ _)
          clear hK K hHeld
          have hHeld := hHeld2
          clear hHeld2
          try simp only [Act.put, List.setIfInBounds_toArray, List.set_cons_zero, List.set_cons_succ]
          refine wpAnyH_take (i := 3) (oi := _) (v := ?v5029) (List.getElem?_toArray.trans rfl) (by kernel_rfl) (by kernel_rfl) (by kernel_rfl) (fun _ _ _ h => h) (Or.inl ⟨by rfl, ?hy5029⟩) (by assumption) ?rest5029
          case hy5029 => (intro wq hSw; (try simp only [Two, AW] at hSw); go_simp; try with_reducible rfl)
          try simp only [Act.put, List.setIfInBounds_toArray, List.set_cons_zero, List.set_cons_succ]
          refine wpAnyH_take (i := 4) (oi := _) (v := ?v5030) (List.getElem?_toArray.trans rfl) (by kernel_rfl) (by kernel_rfl) (by kernel_rfl) (fun _ _ _ h => h) (Or.inl ⟨by rfl, ?hy5030⟩) (by assumption) ?rest5030
          case hy5030 => (intro wq hSw; (try simp only [Two, AW] at hSw); go_simp; try with_reducible rfl)
          try simp only [Act.put, List.setIfInBounds_toArray, List.set_cons_zero, List.set_cons_succ]
          refine wpAnyH_take (i := 5) (oi := _) (v := ?v5031) (List.getElem?_toArray.trans rfl) (by kernel_rfl) (by kernel_rfl) (by kernel_rfl) (fun _ _ _ h => h) (Or.inl ⟨by rfl, ?hy5031⟩) (by assumption) ?rest5031
          case hy5031 => (intro wq hSw; (try simp only [Two, AW] at hSw); go_simp; try with_reducible rfl)
          try simp only [Act.put, List.setIfInBounds_toArray, List.set_cons_zero, List.set_cons_succ]
          refine wpAnyH_ready (rs := [7]) (by kernel_rfl) (by simp) ?rdy5032
          refine (AllReadyH.cons (List.getElem?_toArray.trans rfl) (fun K hK => ?stp5032_7) AllReadyH.nil)
          case stp5032_7 =>
            go_simp
            go_wp2_with fail
            refine hK.out _ _ ?hSn5033 (fun hHeld2 => ?rest5033)
            case hSn5033 => (first | with_reducible exact R0.drew | with_reducible exact (R0.alloc _).drew | with_reducible exact hHeld.below hb4 | with_reducible exact hHeld.below hb5 | with_reducible exact hHeld.alloc _ | with_reducible exact K5.alloc _ | with_reducible exact hHeld.far (by omega) _ _ _ _ | with_reducible exact K5.far (by omega) _ _ _ _ | with_reducible exact (K5.alloc _).far (by omega) _ _ _ _)
            clear hK K hHeld
            have hHeld := hHeld2
            clear hHeld2
            try simp only [Act.put, List.setIfInBounds_toArray, List.set_cons_zero, List.set_cons_succ]
            refine wpAnyH_take (i := 8) (oi := _) (v := ?v5034) (List.getElem?_toArray.trans rfl) (by kernel_rfl) (by kernel_rfl) (by kernel_rfl) (fun _ _ _ h => h) (Or.inl ⟨by rfl, ?hy5034⟩) (by assumption) ?rest5034
            case hy5034 => (intro wq hSw; (try simp only [Two, AW] at hSw); go_simp; try with_reducible rfl)
            try simp only [Act.put, List.setIfInBounds_toArray, List.set_cons_zero, List.set_cons_succ]
            refine wpAnyH_done (by kernel_rfl) ?_ _
            go_wp2_with fail
            go_meet
            case rel => exact ⟨_, rfl, rfl, (by repeat (first | with_reducible exact Blk.new _ _ _ | with_reducible exact U5 | with_reducible exact X5 | with_reducible refine Blk.put4 (x := .bool false) (y := .int .u64 0) (z := .int .u64 0) (q := .int .i64 0) ?_ _ _ _ _)), hHeld⟩
  case rest =>
    obtain ⟨X, rfl, rfl, N, R⟩ := hcut
    have B2 := R.2.2
    clear R0 O1 K1 R hs0 hs1 hs2
    go_wp2_with fail
    refine (V1.out _).mono ?_
    rintro e w3 ⟨rfl, hb3⟩
    have N3 := N.below hb3
    have B3 := B2.trans (hb3.mono B2.size)
    clear V1 hb3 N B2
    go_wp2_with fail
    refine (V2.out _).mono ?_
    rintro e w4 ⟨rfl, hb4⟩
    have N4 := N3.below hb4
    have B4 := B3.trans (hb4.mono B3.size)
    clear V2 hb4 N3 B3
    go_wp2_with fail
    refine (SP.out _).mono ?_
    rintro e w5 ⟨val, rfl, hO, hb5⟩
    obtain ⟨g, cap, rfl, hg⟩ : ∃ g cap, val = .slice (some ⟨g, 0, none⟩) 3 cap ∧ ∀ j u, (cellsL false 32 [(167772161, 0), (167772162, 1), (167772164, 0)])[j]? = some u → w5.cell? ⟨g, j, none⟩ = some u := by
      rcases hO.2 with ⟨_, h0⟩ | ⟨g, cap, cur, rfl, _⟩
      · omega
      · refine ⟨g, cap, rfl, fun j u hj => ?_⟩
        have := hO.cells (g := g) rfl j u hj
        rw [add_at] at this
        exact this
    have gl : g < w5.heap.size := (hO.lt g rfl).2
    have c4 : w5.cell? ⟨g, 4, none⟩ = some (.bool false) := hg 4 _ rfl
    have c5 : w5.cell? ⟨g, 5, none⟩ = some (.int .u64 0) := hg 5 _ rfl
    have c6 : w5.cell? ⟨g, 6, none⟩ = some (.int .u64 167772162) := hg 6 _ rfl
    have c7 : w5.cell? ⟨g, 7, none⟩ = some (.int .i64 31) := hg 7 _ rfl
    have N5 := N4.below hb5
    have B5 := B4.trans (hb5.mono B4.size)
    obtain ⟨r0, r1, r2, r3, r4, r5, r6, r7, r8⟩ := N5.four
    clear SP hb5 N4 B4 hO hg
    go_wp2_with fail
    refine (T1.out _ (Lx.out _ B5)).mono ?_
    rintro e w6 ⟨rfl, hb6⟩
    have d4 := ((bcell hb6).1 g 4 gl).trans c4
    have d5 := ((bcell hb6).1 g 5 gl).trans c5
    have d6 := ((bcell hb6).1 g 6 gl).trans c6
    have d7 := ((bcell hb6).1 g 7 gl).trans c7
    have B6 := B5.trans (hb6.mono B5.size)
    clear T1 hb6 c4 c5 c6 c7 gl B5 N5 r0 r1 r2 r3 r4 r5 r6 r7 r8
    go_wp2_with fail
    refine (T2.out _ (Lx.out _ B6)).mono ?_
    rintro e w7 ⟨rfl, hb7⟩
    have B7 := B6.trans (hb7.mono B6.size)
    clear T2 hb7 d4 d5 d6 d7
    go_wp2
    go_ret
    exact ⟨by first | rfl | simp, B7⟩
end Go.Proofs.YtmhnfgfdggjdhaaGreatDoor

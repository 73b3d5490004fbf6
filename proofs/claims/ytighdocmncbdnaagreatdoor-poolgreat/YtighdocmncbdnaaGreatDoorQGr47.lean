/-
  Texts PoR2 of the proof.
-/
import Derived.Test.YtighdocmncbdnaaGreatDoorQGr46

namespace Go.Proofs.YtighdocmncbdnaaGreatDoor
open Go.ChangeShapes Go.WideShapes Go.ChangeAt Go.RowKit
set_option linter.unusedVariables false
set_option linter.unusedSimpArgs false

theorem add_none0 (g j : Nat) : (⟨g, 0, none⟩ : Addr).add j = ⟨g, j, none⟩ := by
  unfold Addr.add
  split <;> simp_all

set_option maxHeartbeats 1600000 in
theorem rhas06_c {v : Bool} {h l b : Int} {base r N i : Nat} {us : List Nat} {t : Bool} (ht : decide (i ∈ us) = t) (hl6 : us.length ≤ 65536) (w : World) (P : RpAt w base v h l b r N us) :
    Calls Tryz.prog 27 #[.pointer (some ⟨r, 0, none⟩), .int .i64 i] w fun e w' => e = .returned (.bool t) ∧ w' = w := by
  obtain ⟨sv, hb, ho⟩ := P.is
  obtain ⟨r0, r1, r2, r3, r4, r5, rl⟩ := hb.six
  have HT := hide ht
  have OH := hide ho
  obtain ⟨L, hL⟩ : ∃ L, us.length = L := ⟨_, rfl⟩
  have HL := hide hL
  rw [hL] at hl6 OH
  obtain ⟨q, cap, hs, hc⟩ : ∃ (q : Option Addr) (cap : Nat), sv = .slice q L cap ∧ (0 < L → ∃ g, q = some ⟨g, 0, none⟩ ∧ ∀ j (x : Nat), us[j]? = some x → w.cell? ⟨g, j, none⟩ = some (.int .i64 x)) := by
    rcases OH.out.2 with ⟨h1, h0⟩ | ⟨g, cap, cur, h1, _⟩
    · exact ⟨none, 0, by rw [h1, h0], fun h => by omega⟩
    · refine ⟨some ⟨g, 0, none⟩, cap, h1, fun _ => ⟨g, rfl, fun j x hx => ?_⟩⟩
      have := OH.out.cells (g := g) (by rw [h1]; rfl) j (.int .i64 x) (by rw [List.getElem?_map, hx]; rfl)
      rw [add_none0] at this
      exact this
  subst hs
  have HC := hide hc
  clear P hb ho ht hc hL OH
  go_enter Tryz.func27, Tryz.ntmps27
  go_wp2_with fail
  go_loopw [5] (fun k wr => ∃ j : Nat, j ≤ L ∧ k = .int .i64 j ∧ Hid (∀ z, z < j → us[z]? ≠ some i) ∧ wr = w) (fun k _ => L - (intOf k).toNat)
  case atStart => exact ⟨0, by omega, rfl, fun z hz => absurd hz (by omega), rfl⟩
  case round =>
    obtain ⟨j, hj, rfl, hq, rfl⟩ := hrel
    by_cases hlt : j < L
    · have hlt' : (j : Int) < L := by omega
      obtain ⟨y, hy⟩ : ∃ y, us[j]? = some y := ⟨_, List.getElem?_eq_getElem (by rw [HL.out]; exact hlt)⟩
      obtain ⟨g, rfl, hg⟩ := HC.out (by omega)
      have c := hg j y hy
      by_cases e : y = i
      · subst e
        have hin : Hid (t = true) := by show t = true; rw [← HT.out]; exact decide_eq_true (List.mem_of_getElem? hy)
        clear hq hy hg HC
        go_wp2
        go_ret
        exact ⟨by rw [hin.out]; rfl, rfl⟩
      · have e' : ¬ (y : Int) = (i : Int) := by omega
        have hq' : Hid (∀ z, z < j + 1 → us[z]? ≠ some i) := fun z hz => by
          by_cases e2 : z = j
          · subst e2; rw [hy]; simpa using e
          · exact hq.out z (by omega)
        clear hq hy e hg
        go_wp2
        go_roundw
        case rel => exact ⟨j + 1, by omega, by go_num, hq', by first | rfl | trivial⟩
        case measure => simp [intOf]; omega
    · have hlt' : ¬ (j : Int) < L := by omega
      have nin : Hid (t = false) := by
        show t = false
        rw [← HT.out]
        refine decide_eq_false fun hm => ?_
        obtain ⟨z, hz⟩ := List.mem_iff_getElem?.1 hm
        have : z < us.length := by
          apply Classical.byContradiction
          intro c
          rw [List.getElem?_eq_none (by omega)] at hz
          cases hz
        rw [HL.out] at this
        exact hq.out z (by omega) hz
      clear hq HC
      go_wp2
      go_ret
      exact ⟨by rw [nin.out]; rfl, rfl⟩

set_option maxRecDepth 100000 in
set_option maxHeartbeats 3200000 in
theorem raddr06_w {v : Bool} {h l b i rh rl W : Int} {r N : Nat} {sv : Value} (hi : IntKind.u64.wrap i = i) (hW : widthA v = W)
    (BK : Hid (∀ w', Calls Tryz.prog 111 #[pv v h l b, .int .i64 W, nv 0 i] w' fun e w1 => e = .returned (.tuple #[pv v rh rl W, .int .i64 0]) ∧ Below w'.heap.size w' w1)) (w : World)
    (hx : Blk w r #[.bool v, .int .u64 h, .int .u64 l, .int .i64 b, .int .i64 N, sv] 59) :
    Calls Tryz.prog 67 #[.pointer (some ⟨r, 0, none⟩), .int .i64 i] w fun e w' => e = .returned (av v rh rl) ∧ Below w.heap.size w w' := by
  have WD : Hid (∀ w', Calls Tryz.prog 57 #[av v h l] w' fun e w1 => e = .returned (.int .i64 W) ∧ Below w'.heap.size w' w1) := fun w' => rwidth_c v W hW h l w'
  have R0 : Kn w [(w.heap.size, [.bool false, .int .u64 0, .int .u64 0], 26), (r, [.bool v, .int .u64 h, .int .u64 l, .int .i64 b, .int .i64 N, sv], 59)] (w.alloc (.cells #[.bool false, .int .u64 0, .int .u64 0] 26)) := ((Kn.nil w).cons hx).push rfl
  have hxl := hx.lt
  obtain ⟨w0, hw0⟩ : ∃ w0, w0 = w.alloc (.cells #[.bool false, .int .u64 0, .int .u64 0] 26) := ⟨_, rfl⟩
  rw [← hw0] at R0
  have LT := R0.lts
  simp only [Lts] at LT
  have hs0 := R0.bel.size
  clear hx hW
  go_enter Tryz.func67, Tryz.ntmps67
  go_upto_region 1 with fail
  rw [← hw0]
  clear hw0
  go_cut [5, 6] (fun p t wc => ∃ X : Nat, p = .pointer (some ⟨X, 0, none⟩) ∧ t = .int .i64 0 ∧ w.heap.size < X ∧ Blk wc X #[.bool v, .int .u64 rh, .int .u64 rl, .int .i64 W] 28 ∧ Kn w [(w.heap.size, [.bool false, .int .u64 0, .int .u64 0], 26), (r, [.bool v, .int .u64 h, .int .u64 l, .int .i64 b, .int .i64 N, sv], 59)] wc)
  case first =>
    refine wp_region_held_drew (S := (Kn w [(w.heap.size, [.bool false, .int .u64 0, .int .u64 0], 26), (r, [.bool v, .int .u64 h, .int .u64 l, .int .i64 b, .int .i64 N, sv], 59)])) (by kernel_rfl) ?hS5001 (fun hHeld => ?rest5001)
    case hS5001 => (first | with_reducible exact R0.drew | with_reducible exact (R0.alloc _).drew | with_reducible exact hHeld.below hb4 | with_reducible exact hHeld.below hb5 | with_reducible exact hHeld.alloc _ | with_reducible exact K5.alloc _ | with_reducible exact hHeld.far4 (by simp only [Off]; repeat' (first | exact trivial | refine And.intro ?_ ?_ | omega)) (by omega) _ _ _ _ | with_reducible exact K5.far4 (by simp only [Off]; repeat' (first | exact trivial | refine And.intro ?_ ?_ | omega)) (by omega) _ _ _ _ | with_reducible exact (K5.alloc _).far4 (by simp only [Off]; repeat' (first | exact trivial | refine And.intro ?_ ?_ | omega)) (by omega) _ _ _ _)
    refine wpAnyH_take (i := 0) (oi := _) (v := ?v5002) (List.getElem?_toArray.trans rfl) (by kernel_rfl) (by kernel_rfl) (by kernel_rfl) (fun _ _ _ h => h) (Or.inl ⟨by rfl, ?hy5002⟩) (by assumption) ?rest5002
    case hy5002 => (intro wq hSw; (try simp only [Two, Kn, Facts, CellsAt] at hSw); go_simp; try with_reducible rfl)
    try simp only [Act.put, List.setIfInBounds_toArray, List.set_cons_zero, List.set_cons_succ]
    refine wpAnyH_take (i := 1) (oi := _) (v := ?v5003) (List.getElem?_toArray.trans rfl) (by kernel_rfl) (by kernel_rfl) (by kernel_rfl) (fun _ _ _ h => h) (Or.inl ⟨by rfl, ?hy5003⟩) (by assumption) ?rest5003
    case hy5003 => (intro wq hSw; (try simp only [Two, Kn, Facts, CellsAt] at hSw); go_simp; try with_reducible rfl)
    try simp only [Act.put, List.setIfInBounds_toArray, List.set_cons_zero, List.set_cons_succ]
    refine wpAnyH_take (i := 2) (oi := _) (v := ?v5004) (List.getElem?_toArray.trans rfl) (by kernel_rfl) (by kernel_rfl) (by kernel_rfl) (fun _ _ _ h => h) (Or.inl ⟨by rfl, ?hy5004⟩) (by assumption) ?rest5004
    case hy5004 => (intro wq hSw; (try simp only [Two, Kn, Facts, CellsAt] at hSw); go_simp; try with_reducible rfl)
    try simp only [Act.put, List.setIfInBounds_toArray, List.set_cons_zero, List.set_cons_succ]
    refine wpAnyH_take (i := 3) (oi := _) (v := ?v5005) (List.getElem?_toArray.trans rfl) (by kernel_rfl) (by kernel_rfl) (by kernel_rfl) (fun _ _ _ h => h) (Or.inl ⟨by rfl, ?hy5005⟩) (by assumption) ?rest5005
    case hy5005 => (intro wq hSw; (try simp only [Two, Kn, Facts, CellsAt] at hSw); go_simp; try with_reducible rfl)
    try simp only [Act.put, List.setIfInBounds_toArray, List.set_cons_zero, List.set_cons_succ]
    refine wpAnyH_take (i := 4) (oi := _) (v := ?v5006) (List.getElem?_toArray.trans rfl) (by kernel_rfl) (by kernel_rfl) (by kernel_rfl) (fun _ _ _ h => h) (Or.inl ⟨by rfl, ?hy5006⟩) (by assumption) ?rest5006
    case hy5006 => (intro wq hSw; (try simp only [Two, Kn, Facts, CellsAt] at hSw); go_simp; try with_reducible rfl)
    try simp only [Act.put, List.setIfInBounds_toArray, List.set_cons_zero, List.set_cons_succ]
    refine wpAnyH_take (i := 5) (oi := _) (v := ?v5007) (List.getElem?_toArray.trans rfl) (by kernel_rfl) (by kernel_rfl) (by kernel_rfl) (fun _ _ _ h => h) (Or.inl ⟨by rfl, ?hy5007⟩) (by assumption) ?rest5007
    case hy5007 => (intro wq hSw; (try simp only [Two, Kn, Facts, CellsAt] at hSw); go_simp; try with_reducible rfl)
    try simp only [Act.put, List.setIfInBounds_toArray, List.set_cons_zero, List.set_cons_succ]
    refine wpAnyH_take (i := 6) (oi := _) (v := ?v5008) (List.getElem?_toArray.trans rfl) (by kernel_rfl) (by kernel_rfl) (by kernel_rfl) (fun _ _ _ h => h) (Or.inl ⟨by rfl, ?hy5008⟩) (by assumption) ?rest5008
    case hy5008 => (intro wq hSw; (try simp only [Two, Kn, Facts, CellsAt] at hSw); go_simp; try with_reducible rfl)
    try simp only [Act.put, List.setIfInBounds_toArray, List.set_cons_zero, List.set_cons_succ]
    refine wpAnyH_take (i := 7) (oi := _) (v := ?v5009) (List.getElem?_toArray.trans rfl) (by kernel_rfl) (by kernel_rfl) (by kernel_rfl) (fun _ _ _ h => h) (Or.inl ⟨by rfl, ?hy5009⟩) (by assumption) ?rest5009
    case hy5009 => (intro wq hSw; (try simp only [Two, Kn, Facts, CellsAt] at hSw); go_simp; try with_reducible rfl)
    try simp only [Act.put, List.setIfInBounds_toArray, List.set_cons_zero, List.set_cons_succ]
    refine wpAnyH_take (i := 8) (oi := _) (v := ?v5010) (List.getElem?_toArray.trans rfl) (by kernel_rfl) (by kernel_rfl) (by kernel_rfl) (fun _ _ _ h => h) (Or.inl ⟨by rfl, ?hy5010⟩) (by assumption) ?rest5010
    case hy5010 => (intro wq hSw; (try simp only [Two, Kn, Facts, CellsAt] at hSw); go_simp; try with_reducible rfl)
    try simp only [Act.put, List.setIfInBounds_toArray, List.set_cons_zero, List.set_cons_succ]
    refine wpAnyH_take (i := 10) (oi := _) (v := ?v5011) (List.getElem?_toArray.trans rfl) (by kernel_rfl) (by kernel_rfl) (by kernel_rfl) (fun _ _ _ h => h) (Or.inl ⟨by rfl, ?hy5011⟩) (by assumption) ?rest5011
    case hy5011 => (intro wq hSw; (try simp only [Two, Kn, Facts, CellsAt] at hSw); go_simp; try with_reducible rfl)
    try simp only [Act.put, List.setIfInBounds_toArray, List.set_cons_zero, List.set_cons_succ]
    refine wpAnyH_take (i := 11) (oi := _) (v := ?v5012) (List.getElem?_toArray.trans rfl) (by kernel_rfl) (by kernel_rfl) (by kernel_rfl) (fun _ _ _ h => h) (Or.inl ⟨by rfl, ?hy5012⟩) (by assumption) ?rest5012
    case hy5012 => (intro wq hSw; (try simp only [Two, Kn, Facts, CellsAt] at hSw); go_simp; try with_reducible rfl)
    try simp only [Act.put, List.setIfInBounds_toArray, List.set_cons_zero, List.set_cons_succ]
    refine wpAnyH_take (i := 12) (oi := _) (v := ?v5013) (List.getElem?_toArray.trans rfl) (by kernel_rfl) (by kernel_rfl) (by kernel_rfl) (fun _ _ _ h => h) (Or.inl ⟨by rfl, ?hy5013⟩) (by assumption) ?rest5013
    case hy5013 => (intro wq hSw; (try simp only [Two, Kn, Facts, CellsAt] at hSw); go_simp; try with_reducible rfl)
    try simp only [Act.put, List.setIfInBounds_toArray, List.set_cons_zero, List.set_cons_succ]
    refine wpAnyH_ready (rs := [9, 17]) (by kernel_rfl) (by simp) ?rdy5014
    refine (AllReadyH.cons (List.getElem?_toArray.trans rfl) (fun K hK => ?stp5014_9) (AllReadyH.cons (List.getElem?_toArray.trans rfl) (fun K hK => ?stp5014_17) AllReadyH.nil))
    case stp5014_9 =>
      go_simp
      go_wp2_with fail
      (refine (WD.out _).mono ?_; rintro e w4 ⟨rfl, hb4⟩; have s4 : w0.heap.size ≤ w4.heap.size := (by have := hb4.size; first | exact this | (simp at this; omega)); first | (have U4 : Blk w4 w0.heap.size #[.bool false, .int .u64 0, .int .u64 0, .int .i64 0] 28 := Blk.via hb4 (Blk.new w0 #[.bool false, .int .u64 0, .int .u64 0, .int .i64 0] 28) rfl; obtain ⟨u0, u1, u2, u3, u4, u5, u6, u7, u8⟩ := U4.four) | skip)
      go_wp2_with fail
      refine hK.out _ _ ?hSn5015 (fun hHeld2 => ?rest5015)
      case hSn5015 => (first | with_reducible exact R0.drew | with_reducible exact (R0.alloc _).drew | with_reducible exact hHeld.below hb4 | with_reducible exact hHeld.below hb5 | with_reducible exact hHeld.alloc _ | with_reducible exact K5.alloc _ | with_reducible exact hHeld.far4 (by simp only [Off]; repeat' (first | exact trivial | refine And.intro ?_ ?_ | omega)) (by omega) _ _ _ _ | with_reducible exact K5.far4 (by simp only [Off]; repeat' (first | exact trivial | refine And.intro ?_ ?_ | omega)) (by omega) _ _ _ _ | with_reducible exact (K5.alloc _).far4 (by simp only [Off]; repeat' (first | exact trivial | refine And.intro ?_ ?_ | omega)) (by omega) _ _ _ _)
      clear hK K hHeld
      have hHeld := hHeld2
      clear hHeld2
      try simp only [Act.put, List.setIfInBounds_toArray, List.set_cons_zero, List.set_cons_succ]
      refine wpAnyH_ready (rs := [13, 17]) (by kernel_rfl) (by simp) ?rdy5016
      refine (AllReadyH.cons (List.getElem?_toArray.trans rfl) (fun K hK => ?stp5016_13) (AllReadyH.cons (List.getElem?_toArray.trans rfl) (fun K hK => ?stp5016_17) AllReadyH.nil))
      case stp5016_13 =>
        go_simp
        go_wp2_with fail
        (refine (BK.out _).mono ?_; rintro e w5 ⟨rfl, hb5⟩; have K5 := hHeld.below hb5; have s5 : w4.heap.size ≤ w5.heap.size := (by have := hb5.size; first | exact this | (simp at this; omega)); first | (have U5 := U4.below hb5; obtain ⟨a0, a1, a2, a3, a4, a5, a6, a7, a8⟩ := U5.four) | (have U5 : Blk w5 w4.heap.size #[.bool false, .int .u64 0, .int .u64 0, .int .i64 0] 28 := Blk.via hb5 (Blk.new w4 #[.bool false, .int .u64 0, .int .u64 0, .int .i64 0] 28) rfl; obtain ⟨p0, p1, p2, p3, p4, p5, p6, p7, p8⟩ := U5.four) | skip)
        go_wp2_with fail
        refine hK.out _ _ ?hSn5017 (fun hHeld2 => ?rest5017)
        case hSn5017 => (first | with_reducible exact R0.drew | with_reducible exact (R0.alloc _).drew | with_reducible exact hHeld.below hb4 | with_reducible exact hHeld.below hb5 | with_reducible exact hHeld.alloc _ | with_reducible exact K5.alloc _ | with_reducible exact hHeld.far4 (by simp only [Off]; repeat' (first | exact trivial | refine And.intro ?_ ?_ | omega)) (by omega) _ _ _ _ | with_reducible exact K5.far4 (by simp only [Off]; repeat' (first | exact trivial | refine And.intro ?_ ?_ | omega)) (by omega) _ _ _ _ | with_reducible exact (K5.alloc _).far4 (by simp only [Off]; repeat' (first | exact trivial | refine And.intro ?_ ?_ | omega)) (by omega) _ _ _ _)
        clear hK K hHeld
        have hHeld := hHeld2
        clear hHeld2
        try simp only [Act.put, List.setIfInBounds_toArray, List.set_cons_zero, List.set_cons_succ]
        refine wpAnyH_take (i := 14) (oi := _) (v := ?v5018) (List.getElem?_toArray.trans rfl) (by kernel_rfl) (by kernel_rfl) (by kernel_rfl) (fun _ _ _ h => h) (Or.inl ⟨by rfl, ?hy5018⟩) (by assumption) ?rest5018
        case hy5018 => (intro wq hSw; (try simp only [Two, Kn, Facts, CellsAt] at hSw); go_simp; try with_reducible rfl)
        try simp only [Act.put, List.setIfInBounds_toArray, List.set_cons_zero, List.set_cons_succ]
        refine wpAnyH_take (i := 15) (oi := _) (v := ?v5019) (List.getElem?_toArray.trans rfl) (by kernel_rfl) (by kernel_rfl) (by kernel_rfl) (fun _ _ _ h => h) (Or.inl ⟨by rfl, ?hy5019⟩) (by assumption) ?rest5019
        case hy5019 => (intro wq hSw; (try simp only [Two, Kn, Facts, CellsAt] at hSw); go_simp; try with_reducible rfl)
        try simp only [Act.put, List.setIfInBounds_toArray, List.set_cons_zero, List.set_cons_succ]
        refine wpAnyH_take (i := 16) (oi := _) (v := ?v5020) (List.getElem?_toArray.trans rfl) (by kernel_rfl) (by kernel_rfl) (by kernel_rfl) (fun _ _ _ h => h) (Or.inl ⟨by rfl, ?hy5020⟩) (by assumption) ?rest5020
        case hy5020 => (intro wq hSw; (try simp only [Two, Kn, Facts, CellsAt] at hSw); go_simp; try with_reducible rfl)
        try simp only [Act.put, List.setIfInBounds_toArray, List.set_cons_zero, List.set_cons_succ]
        refine wpAnyH_ready (rs := [17]) (by kernel_rfl) (by simp) ?rdy5021
        refine (AllReadyH.cons (List.getElem?_toArray.trans rfl) (fun K hK => ?stp5021_17) AllReadyH.nil)
        case stp5021_17 =>
          go_simp
          go_wp2_with fail
          refine hK.out _ _ ?hSn5022 (fun hHeld2 => ?rest5022)
          case hSn5022 => (first | with_reducible exact R0.drew | with_reducible exact (R0.alloc _).drew | with_reducible exact hHeld.below hb4 | with_reducible exact hHeld.below hb5 | with_reducible exact hHeld.alloc _ | with_reducible exact K5.alloc _ | with_reducible exact hHeld.far4 (by simp only [Off]; repeat' (first | exact trivial | refine And.intro ?_ ?_ | omega)) (by omega) _ _ _ _ | with_reducible exact K5.far4 (by simp only [Off]; repeat' (first | exact trivial | refine And.intro ?_ ?_ | omega)) (by omega) _ _ _ _ | with_reducible exact (K5.alloc _).far4 (by simp only [Off]; repeat' (first | exact trivial | refine And.intro ?_ ?_ | omega)) (by omega) _ _ _ _)
          clear hK K hHeld
          have hHeld := hHeld2
          clear hHeld2
          try simp only [Act.put, List.setIfInBounds_toArray, List.set_cons_zero, List.set_cons_succ]
          refine wpAnyH_ready (rs := [18]) (by kernel_rfl) (by simp) ?rdy5023
          refine (AllReadyH.cons (List.getElem?_toArray.trans rfl) (fun K hK => ?stp5023_18) AllReadyH.nil)
          case stp5023_18 =>
            go_simp
            go_wp2_with fail
            refine hK.out _ _ ?hSn5024 (fun hHeld2 => ?rest5024)
            case hSn5024 => (first | with_reducible exact R0.drew | with_reducible exact (R0.alloc _).drew | with_reducible exact hHeld.below hb4 | with_reducible exact hHeld.below hb5 | with_reducible exact hHeld.alloc _ | with_reducible exact K5.alloc _ | with_reducible exact hHeld.far4 (by simp only [Off]; repeat' (first | exact trivial | refine And.intro ?_ ?_ | omega)) (by omega) _ _ _ _ | with_reducible exact K5.far4 (by simp only [Off]; repeat' (first | exact trivial | refine And.intro ?_ ?_ | omega)) (by omega) _ _ _ _ | with_reducible exact (K5.alloc _).far4 (by simp only [Off]; repeat' (first | exact trivial | refine And.intro ?_ ?_ | omega)) (by omega) _ _ _ _)
            clear hK K hHeld
            have hHeld := hHeld2
            clear hHeld2
            try simp only [Act.put, List.setIfInBounds_toArray, List.set_cons_zero, List.set_cons_succ]
            refine wpAnyH_take (i := 19) (oi := _) (v := ?v5025) (List.getElem?_toArray.trans rfl) (by kernel_rfl) (by kernel_rfl) (by kernel_rfl) (fun _ _ _ h => h) (Or.inl ⟨by rfl, ?hy5025⟩) (by assumption) ?rest5025
            case hy5025 => (intro wq hSw; (try simp only [Two, Kn, Facts, CellsAt] at hSw); go_simp; try with_reducible rfl)
            try simp only [Act.put, List.setIfInBounds_toArray, List.set_cons_zero, List.set_cons_succ]
            refine wpAnyH_done (by kernel_rfl) ?_ _
            go_wp2_with fail
            go_meet
            case rel => exact ⟨_, rfl, rfl, (by omega), (by repeat (first | with_reducible exact Blk.new _ _ _ | with_reducible exact U5 | with_reducible refine Blk.put4 (x := .bool false) (y := .int .u64 0) (z := .int .u64 0) (q := .int .i64 0) ?_ _ _ _ _)), hHeld⟩
      case stp5016_17 =>
        go_simp
        go_wp2_with fail
        refine hK.out _ _ ?hSn5026 (fun hHeld2 => ?rest5026)
        case hSn5026 => (first | with_reducible exact R0.drew | with_reducible exact (R0.alloc _).drew | with_reducible exact hHeld.below hb4 | with_reducible exact hHeld.below hb5 | with_reducible exact hHeld.alloc _ | with_reducible exact K5.alloc _ | with_reducible exact hHeld.far4 (by simp only [Off]; repeat' (first | exact trivial | refine And.intro ?_ ?_ | omega)) (by omega) _ _ _ _ | with_reducible exact K5.far4 (by simp only [Off]; repeat' (first | exact trivial | refine And.intro ?_ ?_ | omega)) (by omega) _ _ _ _ | with_reducible exact (K5.alloc _).far4 (by simp only [Off]; repeat' (first | exact trivial | refine And.intro ?_ ?_ | omega)) (by omega) _ _ _ _)
        clear hK K hHeld
        have hHeld := hHeld2
        clear hHeld2
        try simp only [Act.put, List.setIfInBounds_toArray, List.set_cons_zero, List.set_cons_succ]
        refine wpAnyH_ready (rs := [13]) (by kernel_rfl) (by simp) ?rdy5027
        refine (AllReadyH.cons (List.getElem?_toArray.trans rfl) (fun K hK => ?stp5027_13) AllReadyH.nil)
        case stp5027_13 =>
          go_simp
          go_wp2_with fail
          (refine (BK.out _).mono ?_; rintro e w5 ⟨rfl, hb5⟩; have K5 := hHeld.below hb5; have s5 : w4.heap.size ≤ w5.heap.size := (by have := hb5.size; first | exact this | (simp at this; omega)); first | (have U5 := U4.below hb5; obtain ⟨a0, a1, a2, a3, a4, a5, a6, a7, a8⟩ := U5.four) | (have U5 : Blk w5 w4.heap.size #[.bool false, .int .u64 0, .int .u64 0, .int .i64 0] 28 := Blk.via hb5 (Blk.new w4 #[.bool false, .int .u64 0, .int .u64 0, .int .i64 0] 28) rfl; obtain ⟨p0, p1, p2, p3, p4, p5, p6, p7, p8⟩ := U5.four) | skip)
          go_wp2_with fail
          refine hK.out _ _ ?hSn5028 (fun hHeld2 => ?rest5028)
          case hSn5028 => (first | with_reducible exact R0.drew | with_reducible exact (R0.alloc _).drew | with_reducible exact hHeld.below hb4 | with_reducible exact hHeld.below hb5 | with_reducible exact hHeld.alloc _ | with_reducible exact K5.alloc _ | with_reducible exact hHeld.far4 (by simp only [Off]; repeat' (first | exact trivial | refine And.intro ?_ ?_ | omega)) (by omega) _ _ _ _ | with_reducible exact K5.far4 (by simp only [Off]; repeat' (first | exact trivial | refine And.intro ?_ ?_ | omega)) (by omega) _ _ _ _ | with_reducible exact (K5.alloc _).far4 (by simp only [Off]; repeat' (first | exact trivial | refine And.intro ?_ ?_ | omega)) (by omega) _ _ _ _)
          clear hK K hHeld
          have hHeld := hHeld2
          clear hHeld2
          try simp only [Act.put, List.setIfInBounds_toArray, List.set_cons_zero, List.set_cons_succ]
          refine wpAnyH_take (i := 14) (oi := _) (v := ?v5029) (List.getElem?_toArray.trans rfl) (by kernel_rfl) (by kernel_rfl) (by kernel_rfl) (fun _ _ _ h => h) (Or.inl ⟨by rfl, ?hy5029⟩) (by assumption) ?rest5029
          case hy5029 => (intro wq hSw; (try simp only [Two, Kn, Facts, CellsAt] at hSw); go_simp; try with_reducible rfl)
          try simp only [Act.put, List.setIfInBounds_toArray, List.set_cons_zero, List.set_cons_succ]
          refine wpAnyH_take (i := 15) (oi := _) (v := ?v5030) (List.getElem?_toArray.trans rfl) (by kernel_rfl) (by kernel_rfl) (by kernel_rfl) (fun _ _ _ h => h) (Or.inl ⟨by rfl, ?hy5030⟩) (by assumption) ?rest5030
          case hy5030 => (intro wq hSw; (try simp only [Two, Kn, Facts, CellsAt] at hSw); go_simp; try with_reducible rfl)
          try simp only [Act.put, List.setIfInBounds_toArray, List.set_cons_zero, List.set_cons_succ]
          refine wpAnyH_take (i := 16) (oi := _) (v := ?v5031) (List.getElem?_toArray.trans rfl) (by kernel_rfl) (by kernel_rfl) (by kernel_rfl) (fun _ _ _ h => h) (Or.inl ⟨by rfl, ?hy5031⟩) (by assumption) ?rest5031
          case hy5031 => (intro wq hSw; (try simp only [Two, Kn, Facts, CellsAt] at hSw); go_simp; try with_reducible rfl)
          try simp only [Act.put, List.setIfInBounds_toArray, List.set_cons_zero, List.set_cons_succ]
          refine wpAnyH_ready (rs := [18]) (by kernel_rfl) (by simp) ?rdy5032
          refine (AllReadyH.cons (List.getElem?_toArray.trans rfl) (fun K hK => ?stp5032_18) AllReadyH.nil)
          case stp5032_18 =>
            go_simp
            go_wp2_with fail
            refine hK.out _ _ ?hSn5033 (fun hHeld2 => ?rest5033)
            case hSn5033 => (first | with_reducible exact R0.drew | with_reducible exact (R0.alloc _).drew | with_reducible exact hHeld.below hb4 | with_reducible exact hHeld.below hb5 | with_reducible exact hHeld.alloc _ | with_reducible exact K5.alloc _ | with_reducible exact hHeld.far4 (by simp only [Off]; repeat' (first | exact trivial | refine And.intro ?_ ?_ | omega)) (by omega) _ _ _ _ | with_reducible exact K5.far4 (by simp only [Off]; repeat' (first | exact trivial | refine And.intro ?_ ?_ | omega)) (by omega) _ _ _ _ | with_reducible exact (K5.alloc _).far4 (by simp only [Off]; repeat' (first | exact trivial | refine And.intro ?_ ?_ | omega)) (by omega) _ _ _ _)
            clear hK K hHeld
            have hHeld := hHeld2
            clear hHeld2
            try simp only [Act.put, List.setIfInBounds_toArray, List.set_cons_zero, List.set_cons_succ]
            refine wpAnyH_take (i := 19) (oi := _) (v := ?v5034) (List.getElem?_toArray.trans rfl) (by kernel_rfl) (by kernel_rfl) (by kernel_rfl) (fun _ _ _ h => h) (Or.inl ⟨by rfl, ?hy5034⟩) (by assumption) ?rest5034
            case hy5034 => (intro wq hSw; (try simp only [Two, Kn, Facts, CellsAt] at hSw); go_simp; try with_reducible rfl)
            try simp only [Act.put, List.setIfInBounds_toArray, List.set_cons_zero, List.set_cons_succ]
            refine wpAnyH_done (by kernel_rfl) ?_ _
            go_wp2_with fail
            go_meet
            case rel => exact ⟨_, rfl, rfl, (by omega), (by repeat (first | with_reducible exact Blk.new _ _ _ | with_reducible exact U5 | with_reducible refine Blk.put4 (x := .bool false) (y := .int .u64 0) (z := .int .u64 0) (q := .int .i64 0) ?_ _ _ _ _)), hHeld⟩
    case stp5014_17 =>
      go_simp
      go_wp2_with fail
      refine hK.out _ _ ?hSn5035 (fun hHeld2 => ?rest5035)
      case hSn5035 => (first | with_reducible exact R0.drew | with_reducible exact (R0.alloc _).drew | with_reducible exact hHeld.below hb4 | with_reducible exact hHeld.below hb5 | with_reducible exact hHeld.alloc _ | with_reducible exact K5.alloc _ | with_reducible exact hHeld.far4 (by simp only [Off]; repeat' (first | exact trivial | refine And.intro ?_ ?_ | omega)) (by omega) _ _ _ _ | with_reducible exact K5.far4 (by simp only [Off]; repeat' (first | exact trivial | refine And.intro ?_ ?_ | omega)) (by omega) _ _ _ _ | with_reducible exact (K5.alloc _).far4 (by simp only [Off]; repeat' (first | exact trivial | refine And.intro ?_ ?_ | omega)) (by omega) _ _ _ _)
      clear hK K hHeld
      have hHeld := hHeld2
      clear hHeld2
      try simp only [Act.put, List.setIfInBounds_toArray, List.set_cons_zero, List.set_cons_succ]
      refine wpAnyH_ready (rs := [9]) (by kernel_rfl) (by simp) ?rdy5036
      refine (AllReadyH.cons (List.getElem?_toArray.trans rfl) (fun K hK => ?stp5036_9) AllReadyH.nil)
      case stp5036_9 =>
        go_simp
        go_wp2_with fail
        (refine (WD.out _).mono ?_; rintro e w4 ⟨rfl, hb4⟩; have s4 : w0.heap.size ≤ w4.heap.size := (by have := hb4.size; first | exact this | (simp at this; omega)); first | (have U4 : Blk w4 w0.heap.size #[.bool false, .int .u64 0, .int .u64 0, .int .i64 0] 28 := Blk.via hb4 (Blk.new w0 #[.bool false, .int .u64 0, .int .u64 0, .int .i64 0] 28) rfl; obtain ⟨u0, u1, u2, u3, u4, u5, u6, u7, u8⟩ := U4.four) | skip)
        go_wp2_with fail
        refine hK.out _ _ ?hSn5037 (fun hHeld2 => ?rest5037)
        case hSn5037 => (first | with_reducible exact R0.drew | with_reducible exact (R0.alloc _).drew | with_reducible exact hHeld.below hb4 | with_reducible exact hHeld.below hb5 | with_reducible exact hHeld.alloc _ | with_reducible exact K5.alloc _ | with_reducible exact hHeld.far4 (by simp only [Off]; repeat' (first | exact trivial | refine And.intro ?_ ?_ | omega)) (by omega) _ _ _ _ | with_reducible exact K5.far4 (by simp only [Off]; repeat' (first | exact trivial | refine And.intro ?_ ?_ | omega)) (by omega) _ _ _ _ | with_reducible exact (K5.alloc _).far4 (by simp only [Off]; repeat' (first | exact trivial | refine And.intro ?_ ?_ | omega)) (by omega) _ _ _ _)
        clear hK K hHeld
        have hHeld := hHeld2
        clear hHeld2
        try simp only [Act.put, List.setIfInBounds_toArray, List.set_cons_zero, List.set_cons_succ]
        refine wpAnyH_ready (rs := [13]) (by kernel_rfl) (by simp) ?rdy5038
        refine (AllReadyH.cons (List.getElem?_toArray.trans rfl) (fun K hK => ?stp5038_13) AllReadyH.nil)
        case stp5038_13 =>
          go_simp
          go_wp2_with fail
          (refine (BK.out _).mono ?_; rintro e w5 ⟨rfl, hb5⟩; have K5 := hHeld.below hb5; have s5 : w4.heap.size ≤ w5.heap.size := (by have := hb5.size; first | exact this | (simp at this; omega)); first | (have U5 := U4.below hb5; obtain ⟨a0, a1, a2, a3, a4, a5, a6, a7, a8⟩ := U5.four) | (have U5 : Blk w5 w4.heap.size #[.bool false, .int .u64 0, .int .u64 0, .int .i64 0] 28 := Blk.via hb5 (Blk.new w4 #[.bool false, .int .u64 0, .int .u64 0, .int .i64 0] 28) rfl; obtain ⟨p0, p1, p2, p3, p4, p5, p6, p7, p8⟩ := U5.four) | skip)
          go_wp2_with fail
          refine hK.out _ _ ?hSn5039 (fun hHeld2 => ?rest5039)
          case hSn5039 => (first | with_reducible exact R0.drew | with_reducible exact (R0.alloc _).drew | with_reducible exact hHeld.below hb4 | with_reducible exact hHeld.below hb5 | with_reducible exact hHeld.alloc _ | with_reducible exact K5.alloc _ | with_reducible exact hHeld.far4 (by simp only [Off]; repeat' (first | exact trivial | refine And.intro ?_ ?_ | omega)) (by omega) _ _ _ _ | with_reducible exact K5.far4 (by simp only [Off]; repeat' (first | exact trivial | refine And.intro ?_ ?_ | omega)) (by omega) _ _ _ _ | with_reducible exact (K5.alloc _).far4 (by simp only [Off]; repeat' (first | exact trivial | refine And.intro ?_ ?_ | omega)) (by omega) _ _ _ _)
          clear hK K hHeld
          have hHeld := hHeld2
          clear hHeld2
          try simp only [Act.put, List.setIfInBounds_toArray, List.set_cons_zero, List.set_cons_succ]
          refine wpAnyH_take (i := 14) (oi := _) (v := ?v5040) (List.getElem?_toArray.trans rfl) (by kernel_rfl) (by kernel_rfl) (by kernel_rfl) (fun _ _ _ h => h) (Or.inl ⟨by rfl, ?hy5040⟩) (by assumption) ?rest5040
          case hy5040 => (intro wq hSw; (try simp only [Two, Kn, Facts, CellsAt] at hSw); go_simp; try with_reducible rfl)
          try simp only [Act.put, List.setIfInBounds_toArray, List.set_cons_zero, List.set_cons_succ]
          refine wpAnyH_take (i := 15) (oi := _) (v := ?v5041) (List.getElem?_toArray.trans rfl) (by kernel_rfl) (by kernel_rfl) (by kernel_rfl) (fun _ _ _ h => h) (Or.inl ⟨by rfl, ?hy5041⟩) (by assumption) ?rest5041
          case hy5041 => (intro wq hSw; (try simp only [Two, Kn, Facts, CellsAt] at hSw); go_simp; try with_reducible rfl)
          try simp only [Act.put, List.setIfInBounds_toArray, List.set_cons_zero, List.set_cons_succ]
          refine wpAnyH_take (i := 16) (oi := _) (v := ?v5042) (List.getElem?_toArray.trans rfl) (by kernel_rfl) (by kernel_rfl) (by kernel_rfl) (fun _ _ _ h => h) (Or.inl ⟨by rfl, ?hy5042⟩) (by assumption) ?rest5042
          case hy5042 => (intro wq hSw; (try simp only [Two, Kn, Facts, CellsAt] at hSw); go_simp; try with_reducible rfl)
          try simp only [Act.put, List.setIfInBounds_toArray, List.set_cons_zero, List.set_cons_succ]
          refine wpAnyH_ready (rs := [18]) (by kernel_rfl) (by simp) ?rdy5043
          refine (AllReadyH.cons (List.getElem?_toArray.trans rfl) (fun K hK => ?stp5043_18) AllReadyH.nil)
          case stp5043_18 =>
            go_simp
            go_wp2_with fail
            refine hK.out _ _ ?hSn5044 (fun hHeld2 => ?rest5044)
            case hSn5044 => (first | with_reducible exact R0.drew | with_reducible exact (R0.alloc _).drew | with_reducible exact hHeld.below hb4 | with_reducible exact hHeld.below hb5 | with_reducible exact hHeld.alloc _ | with_reducible exact K5.alloc _ | with_reducible exact hHeld.far4 (by simp only [Off]; repeat' (first | exact trivial | refine And.intro ?_ ?_ | omega)) (by omega) _ _ _ _ | with_reducible exact K5.far4 (by simp only [Off]; repeat' (first | exact trivial | refine And.intro ?_ ?_ | omega)) (by omega) _ _ _ _ | with_reducible exact (K5.alloc _).far4 (by simp only [Off]; repeat' (first | exact trivial | refine And.intro ?_ ?_ | omega)) (by omega) _ _ _ _)
            clear hK K hHeld
            have hHeld := hHeld2
            clear hHeld2
            try simp only [Act.put, List.setIfInBounds_toArray, List.set_cons_zero, List.set_cons_succ]
            refine wpAnyH_take (i := 19) (oi := _) (v := ?v5045) (List.getElem?_toArray.trans rfl) (by kernel_rfl) (by kernel_rfl) (by kernel_rfl) (fun _ _ _ h => h) (Or.inl ⟨by rfl, ?hy5045⟩) (by assumption) ?rest5045
            case hy5045 => (intro wq hSw; (try simp only [Two, Kn, Facts, CellsAt] at hSw); go_simp; try with_reducible rfl)
            try simp only [Act.put, List.setIfInBounds_toArray, List.set_cons_zero, List.set_cons_succ]
            refine wpAnyH_done (by kernel_rfl) ?_ _
            go_wp2_with fail
            go_meet
            case rel => exact ⟨_, rfl, rfl, (by omega), (by repeat (first | with_reducible exact Blk.new _ _ _ | with_reducible exact U5 | with_reducible refine Blk.put4 (x := .bool false) (y := .int .u64 0) (z := .int .u64 0) (q := .int .i64 0) ?_ _ _ _ _)), hHeld⟩
  case rest =>
    obtain ⟨X, rfl, rfl, hX, N1, R⟩ := hcut
    obtain ⟨x0, x1, x2, x3, x4, x5, x6, x7, x8⟩ := N1.four
    obtain ⟨r0, r1, r2, r3, r4, r5, r6⟩ := R.2.1.1.three
    have B := R.bel
    have ne1 : ¬ X = w.heap.size := by omega
    clear R0 R N1 LT hs0 WD BK
    go_wp2
    refine bodyPost_ret (v := av v rh rl) (by simp [results, Tryz.results67, go_sem, World.cell?_setCell_same', World.cell?_setCell_other, *]) rfl ⟨rfl, by repeat (first | with_reducible exact Below.refl _ _ | with_reducible refine Below.drew ?_ | with_reducible refine Below.alloc ?_ (by first | omega | (simp <;> omega)) _ | with_reducible refine Below.setCell ?_ (by first | omega | (simp <;> omega)) _ | with_reducible refine Below.trans ?_ (Below.mono B (by first | omega | (simp <;> omega))))⟩

theorem raddr06_c {v : Bool} {h l b rh rl : Int} {base r n N i : Nat} {us : List Nat} (hp : IsNum h l n) (ok : okP v n b = true) (hi : i < szP v n b) (hr : IsNum rh rl (n + i)) (w : World) (P : RpAt w base v h l b r N us) :
    Calls Tryz.prog 67 #[.pointer (some ⟨r, 0, none⟩), .int .i64 i] w fun e w' => e = .returned (av v rh rl) ∧ Below w.heap.size w w' := by
  obtain ⟨W, hW⟩ : ∃ W, widthA v = W := ⟨_, rfl⟩
  obtain ⟨hc, hlt, hblk⟩ := host_blk hW ok hi
  have le := szP_le (v := v) (n := n) (b := b)
  have ii : IsNum 0 (i : Int) i := ⟨by omega, by omega, by omega, by omega, by omega⟩
  obtain ⟨sv, hb, _⟩ := P.is
  exact raddr06_w (by simp [IntKind.wrap, IntKind.bits, IntKind.signed]; omega) hW (fun w' => rbk_ok hp ii hc hlt (hr.cast hblk.symm) w') w hb
end Go.Proofs.YtighdocmncbdnaaGreatDoor

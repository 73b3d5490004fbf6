/-
  Texts Carve3 of the proof.
-/
import Derived.Deep.DeepCutAuto
import Derived.Test.YtllidkflgjjkfaaGreatDoorC35
import Derived.Test.YtllidkflgjjkfaaGreatDoorC31
import Derived.Test.YtllidkflgjjkfaaGreatDoorC0

namespace Go.Proofs.YtllidkflgjjkfaaGreatDoor
open Go.ChangeShapes Go.WideShapes Go.ChangeAt Go.RowKit
set_option linter.unusedVariables false
set_option linter.unusedSimpArgs false

theorem span_start (w : World) (v : Bool) (h l b : Int) (u : Bool) (qh ql c : Int) : Kn w [(w.heap.size + 1 + 1 + 1, [.int .u64 0, .int .u64 0], 24), (w.heap.size + 1 + 1, [.int .u64 0, .int .u64 0], 24), (w.heap.size + 1, [.bool u, .int .u64 qh, .int .u64 ql, .int .i64 c], 28), (w.heap.size, [.bool v, .int .u64 h, .int .u64 l, .int .i64 b], 28)] ((((w.alloc (.cells #[.bool v, .int .u64 h, .int .u64 l, .int .i64 b] 28)).alloc (.cells #[.bool u, .int .u64 qh, .int .u64 ql, .int .i64 c] 28)).alloc (.cells #[.int .u64 0, .int .u64 0] 24)).alloc (.cells #[.int .u64 0, .int .u64 0] 24)) :=
  ((((Kn.nil w).push rfl).push (by simp)).push (by simp)).push (by simp)

set_option maxRecDepth 100000 in
set_option maxHeartbeats 1600000 in
theorem span_a1 {v u : Bool} {h l b k qh ql c : Int} {n m : Nat} (hp : IsNum h l n) (hq : IsNum qh ql m) (hc : cutB v n b k = false) (w : World) :
    Calls Tryz.prog 126 #[pv v h l b, .int .i64 k, pv u qh ql c] w fun e w' => e = .returned (.tuple #[nv 0 0, nv 0 0, .int .i64 1]) ∧ Below w.heap.size w w' := by
  have C1 : Hid (∀ w', Calls Tryz.prog 120 #[pv v h l b, .int .i64 k] w' fun e w1 => e = .returned (.bool false) ∧ Below w'.heap.size w' w1) := fun w' => hc ▸ cuts_c hp w'
  have Q1 : Hid (True) := trivial
  have O1 : Hid (True) := trivial
  have K := span_start w v h l b u qh ql c
  clear hp hq hc
  go_enter Tryz.func126, Tryz.ntmps126
  go_wp2_with fail
  refine (C1.out _).mono ?_
  rintro e w1 ⟨rfl, hb⟩
  replace K := K.below hb
  have F := K.1
  simp only [Facts, CellsAt] at F
  clear hb C1
  skip
  obtain ⟨s0, s1, s2, s3, s4⟩ := K.2.1.1.two
  obtain ⟨r0, r1, r2, r3, r4⟩ := K.2.1.2.1.two
  have B := K.bel
  clear F K Q1 O1
  go_wp2
  refine bodyPost_ret (v := .tuple #[nv 0 0, nv 0 0, .int .i64 1]) (by simp [results, Tryz.results126, go_sem, World.cell?_setCell_same', World.cell?_setCell_other, *]) rfl ⟨rfl, by repeat (first | with_reducible exact Below.refl _ _ | with_reducible refine Below.drew ?_ | with_reducible refine Below.alloc ?_ (by first | omega | (simp <;> omega)) _ | with_reducible refine Below.setCell ?_ (by first | omega | (simp <;> omega)) _ | with_reducible refine Below.trans ?_ (Below.mono B (by first | omega | (simp <;> omega))))⟩

set_option maxRecDepth 100000 in
set_option maxHeartbeats 1600000 in
theorem span_a2 {v u : Bool} {h l b k qh ql c : Int} {n m : Nat} (hp : IsNum h l n) (hq : IsNum qh ql m) (hc : cutB v n b k = true) (hq0 : okP u m c = false) (w : World) :
    Calls Tryz.prog 126 #[pv v h l b, .int .i64 k, pv u qh ql c] w fun e w' => e = .returned (.tuple #[nv 0 0, nv 0 0, .int .i64 1]) ∧ Below w.heap.size w w' := by
  have C1 : Hid (∀ w', Calls Tryz.prog 120 #[pv v h l b, .int .i64 k] w' fun e w1 => e = .returned (.bool true) ∧ Below w'.heap.size w' w1) := fun w' => hc ▸ cuts_c hp w'
  have Q1 : Hid (∀ w', Calls Tryz.prog 92 #[pv u qh ql c] w' fun e w1 => e = .returned (.bool false) ∧ Below w'.heap.size w' w1) := fun w' => hq0 ▸ pright_c hq w'
  have O1 : Hid (True) := trivial
  have K := span_start w v h l b u qh ql c
  clear hp hq hc
  go_enter Tryz.func126, Tryz.ntmps126
  go_wp2_with fail
  refine (C1.out _).mono ?_
  rintro e w1 ⟨rfl, hb⟩
  replace K := K.below hb
  have F := K.1
  simp only [Facts, CellsAt] at F
  clear hb C1
  (go_wp2_with fail; refine (Q1.out _).mono ?_; rintro e w2 ⟨rfl, hb⟩; replace K := K.below hb; replace F := K.1; simp only [Facts, CellsAt] at F; clear hb)
  obtain ⟨s0, s1, s2, s3, s4⟩ := K.2.1.1.two
  obtain ⟨r0, r1, r2, r3, r4⟩ := K.2.1.2.1.two
  have B := K.bel
  clear F K Q1 O1
  go_wp2
  refine bodyPost_ret (v := .tuple #[nv 0 0, nv 0 0, .int .i64 1]) (by simp [results, Tryz.results126, go_sem, World.cell?_setCell_same', World.cell?_setCell_other, *]) rfl ⟨rfl, by repeat (first | with_reducible exact Below.refl _ _ | with_reducible refine Below.drew ?_ | with_reducible refine Below.alloc ?_ (by first | omega | (simp <;> omega)) _ | with_reducible refine Below.setCell ?_ (by first | omega | (simp <;> omega)) _ | with_reducible refine Below.trans ?_ (Below.mono B (by first | omega | (simp <;> omega))))⟩

set_option maxRecDepth 100000 in
set_option maxHeartbeats 1600000 in
theorem span_ra {v u : Bool} {h l b k qh ql c : Int} {n m : Nat} (hp : IsNum h l n) (hq : IsNum qh ql m) (hc : cutB v n b k = true) (hq0 : okP u m c = true) (ho : overB v n b u m c = false) (w : World) :
    Calls Tryz.prog 126 #[pv v h l b, .int .i64 k, pv u qh ql c] w fun e w' => e = .returned (.tuple #[nv 0 0, nv 0 0, .int .i64 12]) ∧ Below w.heap.size w w' := by
  have C1 : Hid (∀ w', Calls Tryz.prog 120 #[pv v h l b, .int .i64 k] w' fun e w1 => e = .returned (.bool true) ∧ Below w'.heap.size w' w1) := fun w' => hc ▸ cuts_c hp w'
  have Q1 : Hid (∀ w', Calls Tryz.prog 92 #[pv u qh ql c] w' fun e w1 => e = .returned (.bool true) ∧ Below w'.heap.size w' w1) := fun w' => hq0 ▸ pright_c hq w'
  have O1 : Hid (∀ w', Calls Tryz.prog 47 #[pv v h l b, pv u qh ql c] w' fun e w1 => e = .returned (.bool false) ∧ Below w'.heap.size w' w1) := fun w' => ho ▸ over_c hp hq w'
  have K := span_start w v h l b u qh ql c
  clear hp hq hc
  go_enter Tryz.func126, Tryz.ntmps126
  go_wp2_with fail
  refine (C1.out _).mono ?_
  rintro e w1 ⟨rfl, hb⟩
  replace K := K.below hb
  have F := K.1
  simp only [Facts, CellsAt] at F
  clear hb C1
  (go_wp2_with fail; refine (Q1.out _).mono ?_; rintro e w2 ⟨rfl, hb⟩; replace K := K.below hb; replace F := K.1; simp only [Facts, CellsAt] at F; clear hb; go_wp2_with fail; refine (O1.out _).mono ?_; rintro e w3 ⟨rfl, hb⟩; replace K := K.below hb; replace F := K.1; simp only [Facts, CellsAt] at F; clear hb)
  obtain ⟨s0, s1, s2, s3, s4⟩ := K.2.1.1.two
  obtain ⟨r0, r1, r2, r3, r4⟩ := K.2.1.2.1.two
  have B := K.bel
  clear F K Q1 O1
  go_wp2
  refine bodyPost_ret (v := .tuple #[nv 0 0, nv 0 0, .int .i64 12]) (by simp [results, Tryz.results126, go_sem, World.cell?_setCell_same', World.cell?_setCell_other, *]) rfl ⟨rfl, by repeat (first | with_reducible exact Below.refl _ _ | with_reducible refine Below.drew ?_ | with_reducible refine Below.alloc ?_ (by first | omega | (simp <;> omega)) _ | with_reducible refine Below.setCell ?_ (by first | omega | (simp <;> omega)) _ | with_reducible refine Below.trans ?_ (Below.mono B (by first | omega | (simp <;> omega))))⟩

set_option maxRecDepth 100000 in
set_option maxHeartbeats 3200000 in
theorem span_ok_p {v : Bool} {h l b k qh ql c fh fl gh gl : Int} {n m sn : Nat} (hp : IsNum h l n) (hq : IsNum qh ql m) (hs : IsNum h l sn) (hc : cutB v n b k = true) (hq0 : okP v m c = true) (ho : overB v n b v m c = true) (ht : withinB v n b v m c = true) (ks : okP v sn b = true) (hsn : n ≤ sn) (hf : IsNum fh fl (numN v n k sn)) (hg : IsNum gh gl (numN v n k (lastN v sn b))) (w : World) :
    Calls Tryz.prog 126 #[pv v h l b, .int .i64 k, pv v qh ql c] w fun e w' => e = .returned (.tuple #[nv fh fl, nv gh gl, .int .i64 0]) ∧ Below w.heap.size w w' := by
  have C1 : Hid (∀ w', Calls Tryz.prog 120 #[pv v h l b, .int .i64 k] w' fun e w1 => e = .returned (.bool true) ∧ Below w'.heap.size w' w1) := fun w' => hc ▸ cuts_c hp w'
  have Q1 : Hid (∀ w', Calls Tryz.prog 92 #[pv v qh ql c] w' fun e w1 => e = .returned (.bool true) ∧ Below w'.heap.size w' w1) := fun w' => hq0 ▸ pright_c hq w'
  have O1 : Hid (∀ w', Calls Tryz.prog 47 #[pv v h l b, pv v qh ql c] w' fun e w1 => e = .returned (.bool true) ∧ Below w'.heap.size w' w1) := fun w' => ho ▸ over_c hp hq w'
  have W1 : Hid (∀ w', Calls Tryz.prog 48 #[pv v h l b, pv v qh ql c] w' fun e w1 => e = .returned (.bool true) ∧ Below w'.heap.size w' w1) := fun w' => ht ▸ within_c hp hq w'
  obtain ⟨k1, k2, k3, k4, k5⟩ := cutB_parts hc
  obtain ⟨l1, l2⟩ := lastN_small ks hs.lt
  obtain ⟨eh, el, he⟩ := IsNum.ex l1
  have F1 : Hid (∀ w', Calls Tryz.prog 160 #[pv v h l b] w' fun e w1 => e = .returned (av v h l) ∧ Below w'.heap.size w' w1) := fun w' => first_c hs (Or.inl ⟨ks, rfl, rfl, rfl⟩) w'
  have E1 : Hid (∀ w', Calls Tryz.prog 148 #[pv v h l b] w' fun e w1 => e = .returned (av v eh el) ∧ Below w'.heap.size w' w1) := fun w' => last_ok hs ks he w'
  have on := (fitsB_parts (okP_parts k1).1).1
  have os := (fitsB_parts (okP_parts ks).1).1
  have B1 : Hid (∀ w', Calls Tryz.prog 149 #[pv v h l b, .int .i64 k, av v h l] w' fun e w1 => e = .returned (nv fh fl) ∧ Below w'.heap.size w' w1) := fun w' => blockOf_is hp hs on os hsn (by omega) k4 hf w'
  have B2 : Hid (∀ w', Calls Tryz.prog 149 #[pv v h l b, .int .i64 k, av v eh el] w' fun e w1 => e = .returned (nv gh gl) ∧ Below w'.heap.size w' w1) := fun w' => blockOf_is hp he on l2 (Nat.le_trans hsn (by unfold lastN; omega)) (by omega) k4 hg w'
  have K := span_start w v h l b v qh ql c
  clear hp hq hs hc hq0 ho ht ks hsn hf hg k1 k2 k3 k4 k5 l1 l2 he on os
  go_enter Tryz.func126, Tryz.ntmps126
  go_wp2_with fail
  refine (C1.out _).mono ?_
  rintro e w1 ⟨rfl, hb⟩
  replace K := K.below hb
  have F := K.1
  simp only [Facts, CellsAt] at F
  clear hb C1
  go_wp2_with fail
  refine (Q1.out _).mono ?_
  rintro e w2 ⟨rfl, hb⟩
  replace K := K.below hb
  replace F := K.1
  simp only [Facts, CellsAt] at F
  clear hb Q1
  go_wp2_with fail
  refine (O1.out _).mono ?_
  rintro e w3 ⟨rfl, hb⟩
  have Kb := K.below hb
  have hXl : w.heap.size + 1 + 1 + 1 < w3.heap.size := Kb.2.1.1.lt
  clear K F hb O1
  have K := Kb.push (b := w3.heap.size) (cs := [.bool v, .int .u64 qh, .int .u64 ql, .int .i64 c]) (t := 28) rfl
  have F := K.1
  simp only [Facts, CellsAt] at F
  have F3 := Kb.1
  simp only [Facts, CellsAt] at F3
  clear Kb
  go_wp2_with fail
  refine (W1.out _).mono ?_
  rintro e w4 ⟨rfl, hb⟩
  clear F3
  replace K := K.below hb
  replace F := K.1
  simp only [Facts, CellsAt] at F
  obtain ⟨x0, x1, x2, x3, x4, x5, x6, x7, x8⟩ := K.2.1.1.four
  clear hb W1
  obtain ⟨X, hX⟩ : ∃ X, w3.heap.size = X := ⟨_, rfl⟩
  rw [hX] at K F x0 x1 x2 x3 x4 x5 x6 x7 x8 hXl
  go_upto_if 32 with fail
  try rw [hX]
  clear hX
  go_cut [9] (fun p wc => p = .pointer (some ⟨X, 0, none⟩) ∧ Kn w [(X, [.bool v, .int .u64 h, .int .u64 l, .int .i64 b], 28), (w.heap.size + 1 + 1 + 1, [.int .u64 0, .int .u64 0], 24), (w.heap.size + 1 + 1, [.int .u64 0, .int .u64 0], 24), (w.heap.size + 1, [.bool v, .int .u64 qh, .int .u64 ql, .int .i64 c], 28), (w.heap.size, [.bool v, .int .u64 h, .int .u64 l, .int .i64 b], 28)] wc)
  case first =>
    clear F1 E1 B1 B2
    go_wp2_with fail
    go_meet
    case rel => exact ⟨rfl, by first | exact K | exact (K.tail.far4 (by simp only [Off]; repeat' (first | exact trivial | refine And.intro ?_ ?_ | omega)) (by omega) _ _ _ _).cons (K.2.1.1.put4 _ _ _ _)⟩
  case rest =>
    obtain ⟨rfl, K1⟩ := hcut
    clear K F x0 x1 x2 x3 x4 x5 x6 x7 x8
    have R0 := K1
    clear K1
    obtain ⟨w0, hw0⟩ : ∃ w0, w0 = wc := ⟨_, rfl⟩
    rw [← hw0] at R0
    have LT := R0.lts
    simp only [Lts] at LT
    have hs0 := R0.bel.size
    go_upto_region 8 with fail
    rw [← hw0]
    clear hw0
    go_cut [10] (fun p wc => ∃ P : Nat, p = .pointer (some ⟨P, 0, none⟩) ∧ w.heap.size + 1 + 1 + 1 < P ∧ Kn w [(P, [.int .u64 fh, .int .u64 fl], 24), (X, [.bool v, .int .u64 h, .int .u64 l, .int .i64 b], 28), (w.heap.size + 1 + 1 + 1, [.int .u64 0, .int .u64 0], 24), (w.heap.size + 1 + 1, [.int .u64 0, .int .u64 0], 24), (w.heap.size + 1, [.bool v, .int .u64 qh, .int .u64 ql, .int .i64 c], 28), (w.heap.size, [.bool v, .int .u64 h, .int .u64 l, .int .i64 b], 28)] wc)
    case first =>
      clear E1 B2
      refine wp_region_held_drew (S := (Kn w [(X, [.bool v, .int .u64 h, .int .u64 l, .int .i64 b], 28), (w.heap.size + 1 + 1 + 1, [.int .u64 0, .int .u64 0], 24), (w.heap.size + 1 + 1, [.int .u64 0, .int .u64 0], 24), (w.heap.size + 1, [.bool v, .int .u64 qh, .int .u64 ql, .int .i64 c], 28), (w.heap.size, [.bool v, .int .u64 h, .int .u64 l, .int .i64 b], 28)])) (by kernel_rfl) ?hS5001 (fun hHeld => ?rest5001)
      case hS5001 => (first | with_reducible exact R0.drew | with_reducible exact (R0.alloc _).drew | with_reducible exact hHeld.below hb4 | with_reducible exact hHeld.below hb5 | with_reducible exact hHeld.alloc _ | with_reducible exact K5.alloc _ | with_reducible exact hHeld.far2 (by simp only [Off]; repeat' (first | exact trivial | refine And.intro ?_ ?_ | omega)) (by omega) _ _ | with_reducible exact K5.far2 (by simp only [Off]; repeat' (first | exact trivial | refine And.intro ?_ ?_ | omega)) (by omega) _ _ | with_reducible exact (K5.alloc _).far2 (by simp only [Off]; repeat' (first | exact trivial | refine And.intro ?_ ?_ | omega)) (by omega) _ _)
      refine wtk7 (i := 0) (v := ?v5002) (ga7 rfl) (by kernel_rfl) (fun _ _ _ h => h) ⟨by rfl, ?hy5002⟩ (by assumption) ?rest5002
      case hy5002 => (intro wq hSw; (try simp only [Two, Kn, Facts, CellsAt] at hSw); go_simp; try with_reducible rfl)
      try simp only [Act.put, sa7, sb7, sc7]
      refine wtk7 (i := 1) (v := ?v5003) (ga7 rfl) (by kernel_rfl) (fun _ _ _ h => h) ⟨by rfl, ?hy5003⟩ (by assumption) ?rest5003
      case hy5003 => (intro wq hSw; (try simp only [Two, Kn, Facts, CellsAt] at hSw); go_simp; try with_reducible rfl)
      try simp only [Act.put, sa7, sb7, sc7]
      refine wtk7 (i := 2) (v := ?v5004) (ga7 rfl) (by kernel_rfl) (fun _ _ _ h => h) ⟨by rfl, ?hy5004⟩ (by assumption) ?rest5004
      case hy5004 => (intro wq hSw; (try simp only [Two, Kn, Facts, CellsAt] at hSw); go_simp; try with_reducible rfl)
      try simp only [Act.put, sa7, sb7, sc7]
      refine wpAnyH_ready (rs := [3, 5]) (by kernel_rfl) (by simp) ?rdy5005
      refine (AllReadyH.cons (ga7 rfl) (fun K hK => ?stp5005_3) (AllReadyH.cons (ga7 rfl) (fun K hK => ?stp5005_5) AllReadyH.nil))
      case stp5005_3 =>
        go_simp
        go_wp2_with fail
        (refine (F1.out _).mono ?_; rintro e w4 ⟨rfl, hb4⟩; have s4 : w0.heap.size ≤ w4.heap.size := (by have := hb4.size; first | exact this | (simp at this; omega)); first | (have U4 : Blk w4 w0.heap.size #[.int .u64 0, .int .u64 0] 24 := Blk.via hb4 (Blk.new w0 #[.int .u64 0, .int .u64 0] 24) rfl; obtain ⟨u0, u1, u2, u3, u4⟩ := U4.two) | skip)
        go_wp2_with fail
        refine hK.out _ _ ?hSn5006 (fun hHeld2 => ?rest5006)
        case hSn5006 => (first | with_reducible exact R0.drew | with_reducible exact (R0.alloc _).drew | with_reducible exact hHeld.below hb4 | with_reducible exact hHeld.below hb5 | with_reducible exact hHeld.alloc _ | with_reducible exact K5.alloc _ | with_reducible exact hHeld.far2 (by simp only [Off]; repeat' (first | exact trivial | refine And.intro ?_ ?_ | omega)) (by omega) _ _ | with_reducible exact K5.far2 (by simp only [Off]; repeat' (first | exact trivial | refine And.intro ?_ ?_ | omega)) (by omega) _ _ | with_reducible exact (K5.alloc _).far2 (by simp only [Off]; repeat' (first | exact trivial | refine And.intro ?_ ?_ | omega)) (by omega) _ _)
        clear hK K hHeld
        have hHeld := hHeld2
        clear hHeld2
        try simp only [Act.put, sa7, sb7, sc7]
        refine wpAnyH_ready (rs := [4, 5]) (by kernel_rfl) (by simp) ?rdy5007
        refine (AllReadyH.cons (ga7 rfl) (fun K hK => ?stp5007_4) (AllReadyH.cons (ga7 rfl) (fun K hK => ?stp5007_5) AllReadyH.nil))
        case stp5007_4 =>
          go_simp
          go_wp2_with fail
          (refine (B1.out _).mono ?_; rintro e w5 ⟨rfl, hb5⟩; have K5 := hHeld.below hb5; have s5 : w4.heap.size ≤ w5.heap.size := (by have := hb5.size; first | exact this | (simp at this; omega)); first | (have U5 := U4.below hb5; obtain ⟨a0, a1, a2, a3, a4⟩ := U5.two) | (have U5 : Blk w5 w4.heap.size #[.int .u64 0, .int .u64 0] 24 := Blk.via hb5 (Blk.new w4 #[.int .u64 0, .int .u64 0] 24) rfl; obtain ⟨p0, p1, p2, p3, p4⟩ := U5.two) | skip)
          go_wp2_with fail
          refine hK.out _ _ ?hSn5008 (fun hHeld2 => ?rest5008)
          case hSn5008 => (first | with_reducible exact R0.drew | with_reducible exact (R0.alloc _).drew | with_reducible exact hHeld.below hb4 | with_reducible exact hHeld.below hb5 | with_reducible exact hHeld.alloc _ | with_reducible exact K5.alloc _ | with_reducible exact hHeld.far2 (by simp only [Off]; repeat' (first | exact trivial | refine And.intro ?_ ?_ | omega)) (by omega) _ _ | with_reducible exact K5.far2 (by simp only [Off]; repeat' (first | exact trivial | refine And.intro ?_ ?_ | omega)) (by omega) _ _ | with_reducible exact (K5.alloc _).far2 (by simp only [Off]; repeat' (first | exact trivial | refine And.intro ?_ ?_ | omega)) (by omega) _ _)
          clear hK K hHeld
          have hHeld := hHeld2
          clear hHeld2
          try simp only [Act.put, sa7, sb7, sc7]
          refine wpAnyH_ready (rs := [5]) (by kernel_rfl) (by simp) ?rdy5009
          refine (AllReadyH.cons (ga7 rfl) (fun K hK => ?stp5009_5) AllReadyH.nil)
          case stp5009_5 =>
            go_simp
            go_wp2_with fail
            refine hK.out _ _ ?hSn5010 (fun hHeld2 => ?rest5010)
            case hSn5010 => (first | with_reducible exact R0.drew | with_reducible exact (R0.alloc _).drew | with_reducible exact hHeld.below hb4 | with_reducible exact hHeld.below hb5 | with_reducible exact hHeld.alloc _ | with_reducible exact K5.alloc _ | with_reducible exact hHeld.far2 (by simp only [Off]; repeat' (first | exact trivial | refine And.intro ?_ ?_ | omega)) (by omega) _ _ | with_reducible exact K5.far2 (by simp only [Off]; repeat' (first | exact trivial | refine And.intro ?_ ?_ | omega)) (by omega) _ _ | with_reducible exact (K5.alloc _).far2 (by simp only [Off]; repeat' (first | exact trivial | refine And.intro ?_ ?_ | omega)) (by omega) _ _)
            clear hK K hHeld
            have hHeld := hHeld2
            clear hHeld2
            try simp only [Act.put, sa7, sb7, sc7]
            refine wpAnyH_ready (rs := [6]) (by kernel_rfl) (by simp) ?rdy5011
            refine (AllReadyH.cons (ga7 rfl) (fun K hK => ?stp5011_6) AllReadyH.nil)
            case stp5011_6 =>
              go_simp
              go_wp2_with fail
              refine hK.out _ _ ?hSn5012 (fun hHeld2 => ?rest5012)
              case hSn5012 => (first | with_reducible exact R0.drew | with_reducible exact (R0.alloc _).drew | with_reducible exact hHeld.below hb4 | with_reducible exact hHeld.below hb5 | with_reducible exact hHeld.alloc _ | with_reducible exact K5.alloc _ | with_reducible exact hHeld.far2 (by simp only [Off]; repeat' (first | exact trivial | refine And.intro ?_ ?_ | omega)) (by omega) _ _ | with_reducible exact K5.far2 (by simp only [Off]; repeat' (first | exact trivial | refine And.intro ?_ ?_ | omega)) (by omega) _ _ | with_reducible exact (K5.alloc _).far2 (by simp only [Off]; repeat' (first | exact trivial | refine And.intro ?_ ?_ | omega)) (by omega) _ _)
              clear hK K hHeld
              have hHeld := hHeld2
              clear hHeld2
              try simp only [Act.put, sa7, sb7, sc7]
              refine wpAnyH_done (by kernel_rfl) ?_ _
              go_wp2_with fail
              go_meet
              case rel => exact ⟨_, rfl, (by omega), hHeld.cons (by repeat (first | with_reducible exact Blk.new _ _ _ | with_reducible exact U5 | with_reducible refine Blk.put2 (x := .int .u64 0) (y := .int .u64 0) ?_ _ _))⟩
        case stp5007_5 =>
          go_simp
          go_wp2_with fail
          refine hK.out _ _ ?hSn5013 (fun hHeld2 => ?rest5013)
          case hSn5013 => (first | with_reducible exact R0.drew | with_reducible exact (R0.alloc _).drew | with_reducible exact hHeld.below hb4 | with_reducible exact hHeld.below hb5 | with_reducible exact hHeld.alloc _ | with_reducible exact K5.alloc _ | with_reducible exact hHeld.far2 (by simp only [Off]; repeat' (first | exact trivial | refine And.intro ?_ ?_ | omega)) (by omega) _ _ | with_reducible exact K5.far2 (by simp only [Off]; repeat' (first | exact trivial | refine And.intro ?_ ?_ | omega)) (by omega) _ _ | with_reducible exact (K5.alloc _).far2 (by simp only [Off]; repeat' (first | exact trivial | refine And.intro ?_ ?_ | omega)) (by omega) _ _)
          clear hK K hHeld
          have hHeld := hHeld2
          clear hHeld2
          try simp only [Act.put, sa7, sb7, sc7]
          refine wpAnyH_ready (rs := [4]) (by kernel_rfl) (by simp) ?rdy5014
          refine (AllReadyH.cons (ga7 rfl) (fun K hK => ?stp5014_4) AllReadyH.nil)
          case stp5014_4 =>
            go_simp
            go_wp2_with fail
            (refine (B1.out _).mono ?_; rintro e w5 ⟨rfl, hb5⟩; have K5 := hHeld.below hb5; have s5 : w4.heap.size ≤ w5.heap.size := (by have := hb5.size; first | exact this | (simp at this; omega)); first | (have U5 := U4.below hb5; obtain ⟨a0, a1, a2, a3, a4⟩ := U5.two) | (have U5 : Blk w5 w4.heap.size #[.int .u64 0, .int .u64 0] 24 := Blk.via hb5 (Blk.new w4 #[.int .u64 0, .int .u64 0] 24) rfl; obtain ⟨p0, p1, p2, p3, p4⟩ := U5.two) | skip)
            go_wp2_with fail
            refine hK.out _ _ ?hSn5015 (fun hHeld2 => ?rest5015)
            case hSn5015 => (first | with_reducible exact R0.drew | with_reducible exact (R0.alloc _).drew | with_reducible exact hHeld.below hb4 | with_reducible exact hHeld.below hb5 | with_reducible exact hHeld.alloc _ | with_reducible exact K5.alloc _ | with_reducible exact hHeld.far2 (by simp only [Off]; repeat' (first | exact trivial | refine And.intro ?_ ?_ | omega)) (by omega) _ _ | with_reducible exact K5.far2 (by simp only [Off]; repeat' (first | exact trivial | refine And.intro ?_ ?_ | omega)) (by omega) _ _ | with_reducible exact (K5.alloc _).far2 (by simp only [Off]; repeat' (first | exact trivial | refine And.intro ?_ ?_ | omega)) (by omega) _ _)
            clear hK K hHeld
            have hHeld := hHeld2
            clear hHeld2
            try simp only [Act.put, sa7, sb7, sc7]
            refine wpAnyH_ready (rs := [6]) (by kernel_rfl) (by simp) ?rdy5016
            refine (AllReadyH.cons (ga7 rfl) (fun K hK => ?stp5016_6) AllReadyH.nil)
            case stp5016_6 =>
              go_simp
              go_wp2_with fail
              refine hK.out _ _ ?hSn5017 (fun hHeld2 => ?rest5017)
              case hSn5017 => (first | with_reducible exact R0.drew | with_reducible exact (R0.alloc _).drew | with_reducible exact hHeld.below hb4 | with_reducible exact hHeld.below hb5 | with_reducible exact hHeld.alloc _ | with_reducible exact K5.alloc _ | with_reducible exact hHeld.far2 (by simp only [Off]; repeat' (first | exact trivial | refine And.intro ?_ ?_ | omega)) (by omega) _ _ | with_reducible exact K5.far2 (by simp only [Off]; repeat' (first | exact trivial | refine And.intro ?_ ?_ | omega)) (by omega) _ _ | with_reducible exact (K5.alloc _).far2 (by simp only [Off]; repeat' (first | exact trivial | refine And.intro ?_ ?_ | omega)) (by omega) _ _)
              clear hK K hHeld
              have hHeld := hHeld2
              clear hHeld2
              try simp only [Act.put, sa7, sb7, sc7]
              refine wpAnyH_done (by kernel_rfl) ?_ _
              go_wp2_with fail
              go_meet
              case rel => exact ⟨_, rfl, (by omega), hHeld.cons (by repeat (first | with_reducible exact Blk.new _ _ _ | with_reducible exact U5 | with_reducible refine Blk.put2 (x := .int .u64 0) (y := .int .u64 0) ?_ _ _))⟩
      case stp5005_5 =>
        go_simp
        go_wp2_with fail
        refine hK.out _ _ ?hSn5018 (fun hHeld2 => ?rest5018)
        case hSn5018 => (first | with_reducible exact R0.drew | with_reducible exact (R0.alloc _).drew | with_reducible exact hHeld.below hb4 | with_reducible exact hHeld.below hb5 | with_reducible exact hHeld.alloc _ | with_reducible exact K5.alloc _ | with_reducible exact hHeld.far2 (by simp only [Off]; repeat' (first | exact trivial | refine And.intro ?_ ?_ | omega)) (by omega) _ _ | with_reducible exact K5.far2 (by simp only [Off]; repeat' (first | exact trivial | refine And.intro ?_ ?_ | omega)) (by omega) _ _ | with_reducible exact (K5.alloc _).far2 (by simp only [Off]; repeat' (first | exact trivial | refine And.intro ?_ ?_ | omega)) (by omega) _ _)
        clear hK K hHeld
        have hHeld := hHeld2
        clear hHeld2
        try simp only [Act.put, sa7, sb7, sc7]
        refine wpAnyH_ready (rs := [3]) (by kernel_rfl) (by simp) ?rdy5019
        refine (AllReadyH.cons (ga7 rfl) (fun K hK => ?stp5019_3) AllReadyH.nil)
        case stp5019_3 =>
          go_simp
          go_wp2_with fail
          (refine (F1.out _).mono ?_; rintro e w4 ⟨rfl, hb4⟩; have s4 : w0.heap.size ≤ w4.heap.size := (by have := hb4.size; first | exact this | (simp at this; omega)); first | (have U4 : Blk w4 w0.heap.size #[.int .u64 0, .int .u64 0] 24 := Blk.via hb4 (Blk.new w0 #[.int .u64 0, .int .u64 0] 24) rfl; obtain ⟨u0, u1, u2, u3, u4⟩ := U4.two) | skip)
          go_wp2_with fail
          refine hK.out _ _ ?hSn5020 (fun hHeld2 => ?rest5020)
          case hSn5020 => (first | with_reducible exact R0.drew | with_reducible exact (R0.alloc _).drew | with_reducible exact hHeld.below hb4 | with_reducible exact hHeld.below hb5 | with_reducible exact hHeld.alloc _ | with_reducible exact K5.alloc _ | with_reducible exact hHeld.far2 (by simp only [Off]; repeat' (first | exact trivial | refine And.intro ?_ ?_ | omega)) (by omega) _ _ | with_reducible exact K5.far2 (by simp only [Off]; repeat' (first | exact trivial | refine And.intro ?_ ?_ | omega)) (by omega) _ _ | with_reducible exact (K5.alloc _).far2 (by simp only [Off]; repeat' (first | exact trivial | refine And.intro ?_ ?_ | omega)) (by omega) _ _)
          clear hK K hHeld
          have hHeld := hHeld2
          clear hHeld2
          try simp only [Act.put, sa7, sb7, sc7]
          refine wpAnyH_ready (rs := [4]) (by kernel_rfl) (by simp) ?rdy5021
          refine (AllReadyH.cons (ga7 rfl) (fun K hK => ?stp5021_4) AllReadyH.nil)
          case stp5021_4 =>
            go_simp
            go_wp2_with fail
            (refine (B1.out _).mono ?_; rintro e w5 ⟨rfl, hb5⟩; have K5 := hHeld.below hb5; have s5 : w4.heap.size ≤ w5.heap.size := (by have := hb5.size; first | exact this | (simp at this; omega)); first | (have U5 := U4.below hb5; obtain ⟨a0, a1, a2, a3, a4⟩ := U5.two) | (have U5 : Blk w5 w4.heap.size #[.int .u64 0, .int .u64 0] 24 := Blk.via hb5 (Blk.new w4 #[.int .u64 0, .int .u64 0] 24) rfl; obtain ⟨p0, p1, p2, p3, p4⟩ := U5.two) | skip)
            go_wp2_with fail
            refine hK.out _ _ ?hSn5022 (fun hHeld2 => ?rest5022)
            case hSn5022 => (first | with_reducible exact R0.drew | with_reducible exact (R0.alloc _).drew | with_reducible exact hHeld.below hb4 | with_reducible exact hHeld.below hb5 | with_reducible exact hHeld.alloc _ | with_reducible exact K5.alloc _ | with_reducible exact hHeld.far2 (by simp only [Off]; repeat' (first | exact trivial | refine And.intro ?_ ?_ | omega)) (by omega) _ _ | with_reducible exact K5.far2 (by simp only [Off]; repeat' (first | exact trivial | refine And.intro ?_ ?_ | omega)) (by omega) _ _ | with_reducible exact (K5.alloc _).far2 (by simp only [Off]; repeat' (first | exact trivial | refine And.intro ?_ ?_ | omega)) (by omega) _ _)
            clear hK K hHeld
            have hHeld := hHeld2
            clear hHeld2
            try simp only [Act.put, sa7, sb7, sc7]
            refine wpAnyH_ready (rs := [6]) (by kernel_rfl) (by simp) ?rdy5023
            refine (AllReadyH.cons (ga7 rfl) (fun K hK => ?stp5023_6) AllReadyH.nil)
            case stp5023_6 =>
              go_simp
              go_wp2_with fail
              refine hK.out _ _ ?hSn5024 (fun hHeld2 => ?rest5024)
              case hSn5024 => (first | with_reducible exact R0.drew | with_reducible exact (R0.alloc _).drew | with_reducible exact hHeld.below hb4 | with_reducible exact hHeld.below hb5 | with_reducible exact hHeld.alloc _ | with_reducible exact K5.alloc _ | with_reducible exact hHeld.far2 (by simp only [Off]; repeat' (first | exact trivial | refine And.intro ?_ ?_ | omega)) (by omega) _ _ | with_reducible exact K5.far2 (by simp only [Off]; repeat' (first | exact trivial | refine And.intro ?_ ?_ | omega)) (by omega) _ _ | with_reducible exact (K5.alloc _).far2 (by simp only [Off]; repeat' (first | exact trivial | refine And.intro ?_ ?_ | omega)) (by omega) _ _)
              clear hK K hHeld
              have hHeld := hHeld2
              clear hHeld2
              try simp only [Act.put, sa7, sb7, sc7]
              refine wpAnyH_done (by kernel_rfl) ?_ _
              go_wp2_with fail
              go_meet
              case rel => exact ⟨_, rfl, (by omega), hHeld.cons (by repeat (first | with_reducible exact Blk.new _ _ _ | with_reducible exact U5 | with_reducible refine Blk.put2 (x := .int .u64 0) (y := .int .u64 0) ?_ _ _))⟩
    case rest =>
      obtain ⟨P, rfl, hP, K2⟩ := hcut
      clear R0 LT hs0 F1 B1
      have R0 := K2
      clear K2
      obtain ⟨w0, hw0⟩ : ∃ w0, w0 = wc := ⟨_, rfl⟩
      rw [← hw0] at R0
      have LT := R0.lts
      simp only [Lts] at LT
      have hs0 := R0.bel.size
      go_upto_region 9 with fail
      rw [← hw0]
      clear hw0
      go_cut [11] (fun p wc => ∃ Q : Nat, p = .pointer (some ⟨Q, 0, none⟩) ∧ w.heap.size + 1 + 1 + 1 < Q ∧ Kn w [(Q, [.int .u64 gh, .int .u64 gl], 24), (P, [.int .u64 fh, .int .u64 fl], 24), (X, [.bool v, .int .u64 h, .int .u64 l, .int .i64 b], 28), (w.heap.size + 1 + 1 + 1, [.int .u64 0, .int .u64 0], 24), (w.heap.size + 1 + 1, [.int .u64 0, .int .u64 0], 24), (w.heap.size + 1, [.bool v, .int .u64 qh, .int .u64 ql, .int .i64 c], 28), (w.heap.size, [.bool v, .int .u64 h, .int .u64 l, .int .i64 b], 28)] wc)
      case first =>
        refine wp_region_held_drew (S := (Kn w [(P, [.int .u64 fh, .int .u64 fl], 24), (X, [.bool v, .int .u64 h, .int .u64 l, .int .i64 b], 28), (w.heap.size + 1 + 1 + 1, [.int .u64 0, .int .u64 0], 24), (w.heap.size + 1 + 1, [.int .u64 0, .int .u64 0], 24), (w.heap.size + 1, [.bool v, .int .u64 qh, .int .u64 ql, .int .i64 c], 28), (w.heap.size, [.bool v, .int .u64 h, .int .u64 l, .int .i64 b], 28)])) (by kernel_rfl) ?hS5025 (fun hHeld => ?rest5025)
        case hS5025 => (first | with_reducible exact R0.drew | with_reducible exact (R0.alloc _).drew | with_reducible exact hHeld.below hb4 | with_reducible exact hHeld.below hb5 | with_reducible exact hHeld.alloc _ | with_reducible exact K5.alloc _ | with_reducible exact hHeld.far2 (by simp only [Off]; repeat' (first | exact trivial | refine And.intro ?_ ?_ | omega)) (by omega) _ _ | with_reducible exact K5.far2 (by simp only [Off]; repeat' (first | exact trivial | refine And.intro ?_ ?_ | omega)) (by omega) _ _ | with_reducible exact (K5.alloc _).far2 (by simp only [Off]; repeat' (first | exact trivial | refine And.intro ?_ ?_ | omega)) (by omega) _ _)
        refine wtk7 (i := 0) (v := ?v5026) (ga7 rfl) (by kernel_rfl) (fun _ _ _ h => h) ⟨by rfl, ?hy5026⟩ (by assumption) ?rest5026
        case hy5026 => (intro wq hSw; (try simp only [Two, Kn, Facts, CellsAt] at hSw); go_simp; try with_reducible rfl)
        try simp only [Act.put, sa7, sb7, sc7]
        refine wtk7 (i := 1) (v := ?v5027) (ga7 rfl) (by kernel_rfl) (fun _ _ _ h => h) ⟨by rfl, ?hy5027⟩ (by assumption) ?rest5027
        case hy5027 => (intro wq hSw; (try simp only [Two, Kn, Facts, CellsAt] at hSw); go_simp; try with_reducible rfl)
        try simp only [Act.put, sa7, sb7, sc7]
        refine wtk7 (i := 2) (v := ?v5028) (ga7 rfl) (by kernel_rfl) (fun _ _ _ h => h) ⟨by rfl, ?hy5028⟩ (by assumption) ?rest5028
        case hy5028 => (intro wq hSw; (try simp only [Two, Kn, Facts, CellsAt] at hSw); go_simp; try with_reducible rfl)
        try simp only [Act.put, sa7, sb7, sc7]
        refine wpAnyH_ready (rs := [3, 5]) (by kernel_rfl) (by simp) ?rdy5029
        refine (AllReadyH.cons (ga7 rfl) (fun K hK => ?stp5029_3) (AllReadyH.cons (ga7 rfl) (fun K hK => ?stp5029_5) AllReadyH.nil))
        case stp5029_3 =>
          go_simp
          go_wp2_with fail
          (refine (E1.out _).mono ?_; rintro e w4 ⟨rfl, hb4⟩; have s4 : w0.heap.size ≤ w4.heap.size := (by have := hb4.size; first | exact this | (simp at this; omega)); first | (have U4 : Blk w4 w0.heap.size #[.int .u64 0, .int .u64 0] 24 := Blk.via hb4 (Blk.new w0 #[.int .u64 0, .int .u64 0] 24) rfl; obtain ⟨u0, u1, u2, u3, u4⟩ := U4.two) | skip)
          go_wp2_with fail
          refine hK.out _ _ ?hSn5030 (fun hHeld2 => ?rest5030)
          case hSn5030 => (first | with_reducible exact R0.drew | with_reducible exact (R0.alloc _).drew | with_reducible exact hHeld.below hb4 | with_reducible exact hHeld.below hb5 | with_reducible exact hHeld.alloc _ | with_reducible exact K5.alloc _ | with_reducible exact hHeld.far2 (by simp only [Off]; repeat' (first | exact trivial | refine And.intro ?_ ?_ | omega)) (by omega) _ _ | with_reducible exact K5.far2 (by simp only [Off]; repeat' (first | exact trivial | refine And.intro ?_ ?_ | omega)) (by omega) _ _ | with_reducible exact (K5.alloc _).far2 (by simp only [Off]; repeat' (first | exact trivial | refine And.intro ?_ ?_ | omega)) (by omega) _ _)
          clear hK K hHeld
          have hHeld := hHeld2
          clear hHeld2
          try simp only [Act.put, sa7, sb7, sc7]
          refine wpAnyH_ready (rs := [4, 5]) (by kernel_rfl) (by simp) ?rdy5031
          refine (AllReadyH.cons (ga7 rfl) (fun K hK => ?stp5031_4) (AllReadyH.cons (ga7 rfl) (fun K hK => ?stp5031_5) AllReadyH.nil))
          case stp5031_4 =>
            go_simp
            go_wp2_with fail
            (refine (B2.out _).mono ?_; rintro e w5 ⟨rfl, hb5⟩; have K5 := hHeld.below hb5; have s5 : w4.heap.size ≤ w5.heap.size := (by have := hb5.size; first | exact this | (simp at this; omega)); first | (have U5 := U4.below hb5; obtain ⟨a0, a1, a2, a3, a4⟩ := U5.two) | (have U5 : Blk w5 w4.heap.size #[.int .u64 0, .int .u64 0] 24 := Blk.via hb5 (Blk.new w4 #[.int .u64 0, .int .u64 0] 24) rfl; obtain ⟨p0, p1, p2, p3, p4⟩ := U5.two) | skip)
            go_wp2_with fail
            refine hK.out _ _ ?hSn5032 (fun hHeld2 => ?rest5032)
            case hSn5032 => (first | with_reducible exact R0.drew | with_reducible exact (R0.alloc _).drew | with_reducible exact hHeld.below hb4 | with_reducible exact hHeld.below hb5 | with_reducible exact hHeld.alloc _ | with_reducible exact K5.alloc _ | with_reducible exact hHeld.far2 (by simp only [Off]; repeat' (first | exact trivial | refine And.intro ?_ ?_ | omega)) (by omega) _ _ | with_reducible exact K5.far2 (by simp only [Off]; repeat' (first | exact trivial | refine And.intro ?_ ?_ | omega)) (by omega) _ _ | with_reducible exact (K5.alloc _).far2 (by simp only [Off]; repeat' (first | exact trivial | refine And.intro ?_ ?_ | omega)) (by omega) _ _)
            clear hK K hHeld
            have hHeld := hHeld2
            clear hHeld2
            try simp only [Act.put, sa7, sb7, sc7]
            refine wpAnyH_ready (rs := [5]) (by kernel_rfl) (by simp) ?rdy5033
            refine (AllReadyH.cons (ga7 rfl) (fun K hK => ?stp5033_5) AllReadyH.nil)
            case stp5033_5 =>
              go_simp
              go_wp2_with fail
              refine hK.out _ _ ?hSn5034 (fun hHeld2 => ?rest5034)
              case hSn5034 => (first | with_reducible exact R0.drew | with_reducible exact (R0.alloc _).drew | with_reducible exact hHeld.below hb4 | with_reducible exact hHeld.below hb5 | with_reducible exact hHeld.alloc _ | with_reducible exact K5.alloc _ | with_reducible exact hHeld.far2 (by simp only [Off]; repeat' (first | exact trivial | refine And.intro ?_ ?_ | omega)) (by omega) _ _ | with_reducible exact K5.far2 (by simp only [Off]; repeat' (first | exact trivial | refine And.intro ?_ ?_ | omega)) (by omega) _ _ | with_reducible exact (K5.alloc _).far2 (by simp only [Off]; repeat' (first | exact trivial | refine And.intro ?_ ?_ | omega)) (by omega) _ _)
              clear hK K hHeld
              have hHeld := hHeld2
              clear hHeld2
              try simp only [Act.put, sa7, sb7, sc7]
              refine wpAnyH_ready (rs := [6]) (by kernel_rfl) (by simp) ?rdy5035
              refine (AllReadyH.cons (ga7 rfl) (fun K hK => ?stp5035_6) AllReadyH.nil)
              case stp5035_6 =>
                go_simp
                go_wp2_with fail
                refine hK.out _ _ ?hSn5036 (fun hHeld2 => ?rest5036)
                case hSn5036 => (first | with_reducible exact R0.drew | with_reducible exact (R0.alloc _).drew | with_reducible exact hHeld.below hb4 | with_reducible exact hHeld.below hb5 | with_reducible exact hHeld.alloc _ | with_reducible exact K5.alloc _ | with_reducible exact hHeld.far2 (by simp only [Off]; repeat' (first | exact trivial | refine And.intro ?_ ?_ | omega)) (by omega) _ _ | with_reducible exact K5.far2 (by simp only [Off]; repeat' (first | exact trivial | refine And.intro ?_ ?_ | omega)) (by omega) _ _ | with_reducible exact (K5.alloc _).far2 (by simp only [Off]; repeat' (first | exact trivial | refine And.intro ?_ ?_ | omega)) (by omega) _ _)
                clear hK K hHeld
                have hHeld := hHeld2
                clear hHeld2
                try simp only [Act.put, sa7, sb7, sc7]
                refine wpAnyH_done (by kernel_rfl) ?_ _
                go_wp2_with fail
                go_meet
                case rel => exact ⟨_, rfl, (by omega), hHeld.cons (by repeat (first | with_reducible exact Blk.new _ _ _ | with_reducible exact U5 | with_reducible refine Blk.put2 (x := .int .u64 0) (y := .int .u64 0) ?_ _ _))⟩
          case stp5031_5 =>
            go_simp
            go_wp2_with fail
            refine hK.out _ _ ?hSn5037 (fun hHeld2 => ?rest5037)
            case hSn5037 => (first | with_reducible exact R0.drew | with_reducible exact (R0.alloc _).drew | with_reducible exact hHeld.below hb4 | with_reducible exact hHeld.below hb5 | with_reducible exact hHeld.alloc _ | with_reducible exact K5.alloc _ | with_reducible exact hHeld.far2 (by simp only [Off]; repeat' (first | exact trivial | refine And.intro ?_ ?_ | omega)) (by omega) _ _ | with_reducible exact K5.far2 (by simp only [Off]; repeat' (first | exact trivial | refine And.intro ?_ ?_ | omega)) (by omega) _ _ | with_reducible exact (K5.alloc _).far2 (by simp only [Off]; repeat' (first | exact trivial | refine And.intro ?_ ?_ | omega)) (by omega) _ _)
            clear hK K hHeld
            have hHeld := hHeld2
            clear hHeld2
            try simp only [Act.put, sa7, sb7, sc7]
            refine wpAnyH_ready (rs := [4]) (by kernel_rfl) (by simp) ?rdy5038
            refine (AllReadyH.cons (ga7 rfl) (fun K hK => ?stp5038_4) AllReadyH.nil)
            case stp5038_4 =>
              go_simp
              go_wp2_with fail
              (refine (B2.out _).mono ?_; rintro e w5 ⟨rfl, hb5⟩; have K5 := hHeld.below hb5; have s5 : w4.heap.size ≤ w5.heap.size := (by have := hb5.size; first | exact this | (simp at this; omega)); first | (have U5 := U4.below hb5; obtain ⟨a0, a1, a2, a3, a4⟩ := U5.two) | (have U5 : Blk w5 w4.heap.size #[.int .u64 0, .int .u64 0] 24 := Blk.via hb5 (Blk.new w4 #[.int .u64 0, .int .u64 0] 24) rfl; obtain ⟨p0, p1, p2, p3, p4⟩ := U5.two) | skip)
              go_wp2_with fail
              refine hK.out _ _ ?hSn5039 (fun hHeld2 => ?rest5039)
              case hSn5039 => (first | with_reducible exact R0.drew | with_reducible exact (R0.alloc _).drew | with_reducible exact hHeld.below hb4 | with_reducible exact hHeld.below hb5 | with_reducible exact hHeld.alloc _ | with_reducible exact K5.alloc _ | with_reducible exact hHeld.far2 (by simp only [Off]; repeat' (first | exact trivial | refine And.intro ?_ ?_ | omega)) (by omega) _ _ | with_reducible exact K5.far2 (by simp only [Off]; repeat' (first | exact trivial | refine And.intro ?_ ?_ | omega)) (by omega) _ _ | with_reducible exact (K5.alloc _).far2 (by simp only [Off]; repeat' (first | exact trivial | refine And.intro ?_ ?_ | omega)) (by omega) _ _)
              clear hK K hHeld
              have hHeld := hHeld2
              clear hHeld2
              try simp only [Act.put, sa7, sb7, sc7]
              refine wpAnyH_ready (rs := [6]) (by kernel_rfl) (by simp) ?rdy5040
              refine (AllReadyH.cons (ga7 rfl) (fun K hK => ?stp5040_6) AllReadyH.nil)
              case stp5040_6 =>
                go_simp
                go_wp2_with fail
                refine hK.out _ _ ?hSn5041 (fun hHeld2 => ?rest5041)
                case hSn5041 => (first | with_reducible exact R0.drew | with_reducible exact (R0.alloc _).drew | with_reducible exact hHeld.below hb4 | with_reducible exact hHeld.below hb5 | with_reducible exact hHeld.alloc _ | with_reducible exact K5.alloc _ | with_reducible exact hHeld.far2 (by simp only [Off]; repeat' (first | exact trivial | refine And.intro ?_ ?_ | omega)) (by omega) _ _ | with_reducible exact K5.far2 (by simp only [Off]; repeat' (first | exact trivial | refine And.intro ?_ ?_ | omega)) (by omega) _ _ | with_reducible exact (K5.alloc _).far2 (by simp only [Off]; repeat' (first | exact trivial | refine And.intro ?_ ?_ | omega)) (by omega) _ _)
                clear hK K hHeld
                have hHeld := hHeld2
                clear hHeld2
                try simp only [Act.put, sa7, sb7, sc7]
                refine wpAnyH_done (by kernel_rfl) ?_ _
                go_wp2_with fail
                go_meet
                case rel => exact ⟨_, rfl, (by omega), hHeld.cons (by repeat (first | with_reducible exact Blk.new _ _ _ | with_reducible exact U5 | with_reducible refine Blk.put2 (x := .int .u64 0) (y := .int .u64 0) ?_ _ _))⟩
        case stp5029_5 =>
          go_simp
          go_wp2_with fail
          refine hK.out _ _ ?hSn5042 (fun hHeld2 => ?rest5042)
          case hSn5042 => (first | with_reducible exact R0.drew | with_reducible exact (R0.alloc _).drew | with_reducible exact hHeld.below hb4 | with_reducible exact hHeld.below hb5 | with_reducible exact hHeld.alloc _ | with_reducible exact K5.alloc _ | with_reducible exact hHeld.far2 (by simp only [Off]; repeat' (first | exact trivial | refine And.intro ?_ ?_ | omega)) (by omega) _ _ | with_reducible exact K5.far2 (by simp only [Off]; repeat' (first | exact trivial | refine And.intro ?_ ?_ | omega)) (by omega) _ _ | with_reducible exact (K5.alloc _).far2 (by simp only [Off]; repeat' (first | exact trivial | refine And.intro ?_ ?_ | omega)) (by omega) _ _)
          clear hK K hHeld
          have hHeld := hHeld2
          clear hHeld2
          try simp only [Act.put, sa7, sb7, sc7]
          refine wpAnyH_ready (rs := [3]) (by kernel_rfl) (by simp) ?rdy5043
          refine (AllReadyH.cons (ga7 rfl) (fun K hK => ?stp5043_3) AllReadyH.nil)
          case stp5043_3 =>
            go_simp
            go_wp2_with fail
            (refine (E1.out _).mono ?_; rintro e w4 ⟨rfl, hb4⟩; have s4 : w0.heap.size ≤ w4.heap.size := (by have := hb4.size; first | exact this | (simp at this; omega)); first | (have U4 : Blk w4 w0.heap.size #[.int .u64 0, .int .u64 0] 24 := Blk.via hb4 (Blk.new w0 #[.int .u64 0, .int .u64 0] 24) rfl; obtain ⟨u0, u1, u2, u3, u4⟩ := U4.two) | skip)
            go_wp2_with fail
            refine hK.out _ _ ?hSn5044 (fun hHeld2 => ?rest5044)
            case hSn5044 => (first | with_reducible exact R0.drew | with_reducible exact (R0.alloc _).drew | with_reducible exact hHeld.below hb4 | with_reducible exact hHeld.below hb5 | with_reducible exact hHeld.alloc _ | with_reducible exact K5.alloc _ | with_reducible exact hHeld.far2 (by simp only [Off]; repeat' (first | exact trivial | refine And.intro ?_ ?_ | omega)) (by omega) _ _ | with_reducible exact K5.far2 (by simp only [Off]; repeat' (first | exact trivial | refine And.intro ?_ ?_ | omega)) (by omega) _ _ | with_reducible exact (K5.alloc _).far2 (by simp only [Off]; repeat' (first | exact trivial | refine And.intro ?_ ?_ | omega)) (by omega) _ _)
            clear hK K hHeld
            have hHeld := hHeld2
            clear hHeld2
            try simp only [Act.put, sa7, sb7, sc7]
            refine wpAnyH_ready (rs := [4]) (by kernel_rfl) (by simp) ?rdy5045
            refine (AllReadyH.cons (ga7 rfl) (fun K hK => ?stp5045_4) AllReadyH.nil)
            case stp5045_4 =>
              go_simp
              go_wp2_with fail
              (refine (B2.out _).mono ?_; rintro e w5 ⟨rfl, hb5⟩; have K5 := hHeld.below hb5; have s5 : w4.heap.size ≤ w5.heap.size := (by have := hb5.size; first | exact this | (simp at this; omega)); first | (have U5 := U4.below hb5; obtain ⟨a0, a1, a2, a3, a4⟩ := U5.two) | (have U5 : Blk w5 w4.heap.size #[.int .u64 0, .int .u64 0] 24 := Blk.via hb5 (Blk.new w4 #[.int .u64 0, .int .u64 0] 24) rfl; obtain ⟨p0, p1, p2, p3, p4⟩ := U5.two) | skip)
              go_wp2_with fail
              refine hK.out _ _ ?hSn5046 (fun hHeld2 => ?rest5046)
              case hSn5046 => (first | with_reducible exact R0.drew | with_reducible exact (R0.alloc _).drew | with_reducible exact hHeld.below hb4 | with_reducible exact hHeld.below hb5 | with_reducible exact hHeld.alloc _ | with_reducible exact K5.alloc _ | with_reducible exact hHeld.far2 (by simp only [Off]; repeat' (first | exact trivial | refine And.intro ?_ ?_ | omega)) (by omega) _ _ | with_reducible exact K5.far2 (by simp only [Off]; repeat' (first | exact trivial | refine And.intro ?_ ?_ | omega)) (by omega) _ _ | with_reducible exact (K5.alloc _).far2 (by simp only [Off]; repeat' (first | exact trivial | refine And.intro ?_ ?_ | omega)) (by omega) _ _)
              clear hK K hHeld
              have hHeld := hHeld2
              clear hHeld2
              try simp only [Act.put, sa7, sb7, sc7]
              refine wpAnyH_ready (rs := [6]) (by kernel_rfl) (by simp) ?rdy5047
              refine (AllReadyH.cons (ga7 rfl) (fun K hK => ?stp5047_6) AllReadyH.nil)
              case stp5047_6 =>
                go_simp
                go_wp2_with fail
                refine hK.out _ _ ?hSn5048 (fun hHeld2 => ?rest5048)
                case hSn5048 => (first | with_reducible exact R0.drew | with_reducible exact (R0.alloc _).drew | with_reducible exact hHeld.below hb4 | with_reducible exact hHeld.below hb5 | with_reducible exact hHeld.alloc _ | with_reducible exact K5.alloc _ | with_reducible exact hHeld.far2 (by simp only [Off]; repeat' (first | exact trivial | refine And.intro ?_ ?_ | omega)) (by omega) _ _ | with_reducible exact K5.far2 (by simp only [Off]; repeat' (first | exact trivial | refine And.intro ?_ ?_ | omega)) (by omega) _ _ | with_reducible exact (K5.alloc _).far2 (by simp only [Off]; repeat' (first | exact trivial | refine And.intro ?_ ?_ | omega)) (by omega) _ _)
                clear hK K hHeld
                have hHeld := hHeld2
                clear hHeld2
                try simp only [Act.put, sa7, sb7, sc7]
                refine wpAnyH_done (by kernel_rfl) ?_ _
                go_wp2_with fail
                go_meet
                case rel => exact ⟨_, rfl, (by omega), hHeld.cons (by repeat (first | with_reducible exact Blk.new _ _ _ | with_reducible exact U5 | with_reducible refine Blk.put2 (x := .int .u64 0) (y := .int .u64 0) ?_ _ _))⟩
      case rest =>
        obtain ⟨Q, rfl, hQ, K3⟩ := hcut
        clear R0 LT hs0 E1 B2
        have R0 : Kn w [(Q, [.int .u64 gh, .int .u64 gl], 24), (P, [.int .u64 fh, .int .u64 fl], 24)] wc := Kn.of ⟨K3.2.1.1, K3.2.1.2.1, trivial⟩ K3.bel
        obtain ⟨s0, s1, s2, s3, s4⟩ := K3.2.1.2.2.2.1.two
        obtain ⟨r0, r1, r2, r3, r4⟩ := K3.2.1.2.2.2.2.1.two
        obtain ⟨p0, p1, p2, p3, p4⟩ := K3.2.1.2.1.two
        obtain ⟨q0, q1, q2, q3, q4⟩ := K3.2.1.1.two
        have B := K3.bel
        have hne := K3.2.1
        have ne1 : P ≠ w.heap.size + 1 + 1 := by omega
        have ne2 : P ≠ w.heap.size + 1 + 1 + 1 := by omega
        have ne3 : Q ≠ w.heap.size + 1 + 1 := by omega
        have ne4 : Q ≠ w.heap.size + 1 + 1 + 1 := by omega
        have of1 : Off (w.heap.size + 1 + 1) [(Q, [.int .u64 gh, .int .u64 gl], 24), (P, [.int .u64 fh, .int .u64 fl], 24)] := by simp only [Off]; exact ⟨ne3, ne1, trivial⟩
        have of2 : Off (w.heap.size + 1 + 1 + 1) [(Q, [.int .u64 gh, .int .u64 gl], 24), (P, [.int .u64 fh, .int .u64 fl], 24)] := by simp only [Off]; exact ⟨ne4, ne2, trivial⟩
        have le1 : w.heap.size ≤ w.heap.size + 1 + 1 := by omega
        have le2 : w.heap.size ≤ w.heap.size + 1 + 1 + 1 := by omega
        clear K3 hne
        go_upto_region 10 with fail
        refine wp_region_held_drew (S := (Kn w [(Q, [.int .u64 gh, .int .u64 gl], 24), (P, [.int .u64 fh, .int .u64 fl], 24)])) (by kernel_rfl) ?hS5049 (fun hHeld => ?rest5049)
        case hS5049 => (first | with_reducible exact R0.drew | with_reducible exact hHeld.far2 of1 le1 _ _ | with_reducible exact hHeld.far2 of2 le2 _ _ | with_reducible exact (R0.far2 of1 le1 _ _).drew | with_reducible exact ((R0.far2 of1 le1 _ _).far2 of2 le2 _ _).drew)
        refine wtk7 (i := 0) (v := ?v5050) (ga7 rfl) (by kernel_rfl) (fun _ _ _ h => h) ⟨by rfl, ?hy5050⟩ (by assumption) ?rest5050
        case hy5050 => (intro wq hSw; (try simp only [Two, Kn, Facts, CellsAt] at hSw); go_simp; try with_reducible rfl)
        try simp only [Act.put, sa7, sb7, sc7]
        refine wtk7 (i := 1) (v := ?v5051) (ga7 rfl) (by kernel_rfl) (fun _ _ _ h => h) ⟨by rfl, ?hy5051⟩ (by assumption) ?rest5051
        case hy5051 => (intro wq hSw; (try simp only [Two, Kn, Facts, CellsAt] at hSw); go_simp; try with_reducible rfl)
        try simp only [Act.put, sa7, sb7, sc7]
        refine wpAnyH_ready (rs := [2]) (by kernel_rfl) (by simp) ?rdy5052
        refine (AllReadyH.cons (ga7 rfl) (fun K hK => ?stp5052_2) AllReadyH.nil)
        case stp5052_2 =>
          go_simp
          go_wp2_with fail
          refine hK.out _ _ ?hSn5053 (fun hHeld2 => ?rest5053)
          case hSn5053 => (first | with_reducible exact R0.drew | with_reducible exact hHeld.far2 of1 le1 _ _ | with_reducible exact hHeld.far2 of2 le2 _ _ | with_reducible exact (R0.far2 of1 le1 _ _).drew | with_reducible exact ((R0.far2 of1 le1 _ _).far2 of2 le2 _ _).drew)
          clear hK K hHeld
          have hHeld := hHeld2
          clear hHeld2
          try simp only [Act.put, sa7, sb7, sc7]
          refine wpAnyH_ready (rs := [3]) (by kernel_rfl) (by simp) ?rdy5054
          refine (AllReadyH.cons (ga7 rfl) (fun K hK => ?stp5054_3) AllReadyH.nil)
          case stp5054_3 =>
            go_simp
            go_wp2_with fail
            refine hK.out _ _ ?hSn5055 (fun hHeld2 => ?rest5055)
            case hSn5055 => (first | with_reducible exact R0.drew | with_reducible exact hHeld.far2 of1 le1 _ _ | with_reducible exact hHeld.far2 of2 le2 _ _ | with_reducible exact (R0.far2 of1 le1 _ _).drew | with_reducible exact ((R0.far2 of1 le1 _ _).far2 of2 le2 _ _).drew)
            clear hK K hHeld
            have hHeld := hHeld2
            clear hHeld2
            try simp only [Act.put, sa7, sb7, sc7]
            refine wtk7 (i := 4) (v := ?v5056) (ga7 rfl) (by kernel_rfl) (fun _ _ _ h => h) ⟨by rfl, ?hy5056⟩ (by assumption) ?rest5056
            case hy5056 => (intro wq hSw; (try simp only [Two, Kn, Facts, CellsAt] at hSw); go_simp; try with_reducible rfl)
            try simp only [Act.put, sa7, sb7, sc7]
            refine wpAnyH_done (by kernel_rfl) ?_ _
            go_wp2
            refine bodyPost_ret (v := .tuple #[nv fh fl, nv gh gl, .int .i64 0]) (by simp [results, Tryz.results126, go_sem, World.cell?_setCell_same', World.cell?_setCell_other, *]) rfl ⟨rfl, by repeat (first | with_reducible exact Below.refl _ _ | with_reducible refine Below.drew ?_ | with_reducible refine Below.alloc ?_ (by first | omega | (simp <;> omega)) _ | with_reducible refine Below.setCell ?_ (by first | omega | (simp <;> omega)) _ | with_reducible refine Below.trans ?_ (Below.mono B (by first | omega | (simp <;> omega))))⟩

set_option maxRecDepth 100000 in
set_option maxHeartbeats 3200000 in
theorem span_ok_q {v : Bool} {h l b k qh ql c fh fl gh gl : Int} {n m sn : Nat} (hp : IsNum h l n) (hq : IsNum qh ql m) (hs : IsNum qh ql sn) (hc : cutB v n b k = true) (hq0 : okP v m c = true) (ho : overB v n b v m c = true) (ht : withinB v n b v m c = false) (ks : okP v sn c = true) (hsn : n ≤ sn) (hf : IsNum fh fl (numN v n k sn)) (hg : IsNum gh gl (numN v n k (lastN v sn c))) (w : World) :
    Calls Tryz.prog 126 #[pv v h l b, .int .i64 k, pv v qh ql c] w fun e w' => e = .returned (.tuple #[nv fh fl, nv gh gl, .int .i64 0]) ∧ Below w.heap.size w w' := by
  have C1 : Hid (∀ w', Calls Tryz.prog 120 #[pv v h l b, .int .i64 k] w' fun e w1 => e = .returned (.bool true) ∧ Below w'.heap.size w' w1) := fun w' => hc ▸ cuts_c hp w'
  have Q1 : Hid (∀ w', Calls Tryz.prog 92 #[pv v qh ql c] w' fun e w1 => e = .returned (.bool true) ∧ Below w'.heap.size w' w1) := fun w' => hq0 ▸ pright_c hq w'
  have O1 : Hid (∀ w', Calls Tryz.prog 47 #[pv v h l b, pv v qh ql c] w' fun e w1 => e = .returned (.bool true) ∧ Below w'.heap.size w' w1) := fun w' => ho ▸ over_c hp hq w'
  have W1 : Hid (∀ w', Calls Tryz.prog 48 #[pv v h l b, pv v qh ql c] w' fun e w1 => e = .returned (.bool false) ∧ Below w'.heap.size w' w1) := fun w' => ht ▸ within_c hp hq w'
  obtain ⟨k1, k2, k3, k4, k5⟩ := cutB_parts hc
  obtain ⟨l1, l2⟩ := lastN_small ks hs.lt
  obtain ⟨eh, el, he⟩ := IsNum.ex l1
  have F1 : Hid (∀ w', Calls Tryz.prog 160 #[pv v qh ql c] w' fun e w1 => e = .returned (av v qh ql) ∧ Below w'.heap.size w' w1) := fun w' => first_c hs (Or.inl ⟨ks, rfl, rfl, rfl⟩) w'
  have E1 : Hid (∀ w', Calls Tryz.prog 148 #[pv v qh ql c] w' fun e w1 => e = .returned (av v eh el) ∧ Below w'.heap.size w' w1) := fun w' => last_ok hs ks he w'
  have on := (fitsB_parts (okP_parts k1).1).1
  have os := (fitsB_parts (okP_parts ks).1).1
  have B1 : Hid (∀ w', Calls Tryz.prog 149 #[pv v h l b, .int .i64 k, av v qh ql] w' fun e w1 => e = .returned (nv fh fl) ∧ Below w'.heap.size w' w1) := fun w' => blockOf_is hp hs on os hsn (by omega) k4 hf w'
  have B2 : Hid (∀ w', Calls Tryz.prog 149 #[pv v h l b, .int .i64 k, av v eh el] w' fun e w1 => e = .returned (nv gh gl) ∧ Below w'.heap.size w' w1) := fun w' => blockOf_is hp he on l2 (Nat.le_trans hsn (by unfold lastN; omega)) (by omega) k4 hg w'
  have K := span_start w v h l b v qh ql c
  clear hp hq hs hc hq0 ho ht ks hsn hf hg k1 k2 k3 k4 k5 l1 l2 he on os
  go_enter Tryz.func126, Tryz.ntmps126
  go_wp2_with fail
  refine (C1.out _).mono ?_
  rintro e w1 ⟨rfl, hb⟩
  replace K := K.below hb
  have F := K.1
  simp only [Facts, CellsAt] at F
  clear hb C1
  go_wp2_with fail
  refine (Q1.out _).mono ?_
  rintro e w2 ⟨rfl, hb⟩
  replace K := K.below hb
  replace F := K.1
  simp only [Facts, CellsAt] at F
  clear hb Q1
  go_wp2_with fail
  refine (O1.out _).mono ?_
  rintro e w3 ⟨rfl, hb⟩
  have Kb := K.below hb
  have hXl : w.heap.size + 1 + 1 + 1 < w3.heap.size := Kb.2.1.1.lt
  clear K F hb O1
  have K := Kb.push (b := w3.heap.size) (cs := [.bool v, .int .u64 qh, .int .u64 ql, .int .i64 c]) (t := 28) rfl
  have F := K.1
  simp only [Facts, CellsAt] at F
  have F3 := Kb.1
  simp only [Facts, CellsAt] at F3
  clear Kb
  go_wp2_with fail
  refine (W1.out _).mono ?_
  rintro e w4 ⟨rfl, hb⟩
  clear F3
  replace K := K.below hb
  replace F := K.1
  simp only [Facts, CellsAt] at F
  obtain ⟨x0, x1, x2, x3, x4, x5, x6, x7, x8⟩ := K.2.1.1.four
  clear hb W1
  obtain ⟨X, hX⟩ : ∃ X, w3.heap.size = X := ⟨_, rfl⟩
  rw [hX] at K F x0 x1 x2 x3 x4 x5 x6 x7 x8 hXl
  go_upto_if 32 with fail
  try rw [hX]
  clear hX
  go_cut [9] (fun p wc => p = .pointer (some ⟨X, 0, none⟩) ∧ Kn w [(X, [.bool v, .int .u64 qh, .int .u64 ql, .int .i64 c], 28), (w.heap.size + 1 + 1 + 1, [.int .u64 0, .int .u64 0], 24), (w.heap.size + 1 + 1, [.int .u64 0, .int .u64 0], 24), (w.heap.size + 1, [.bool v, .int .u64 qh, .int .u64 ql, .int .i64 c], 28), (w.heap.size, [.bool v, .int .u64 h, .int .u64 l, .int .i64 b], 28)] wc)
  case first =>
    clear F1 E1 B1 B2
    go_wp2_with fail
    go_meet
    case rel => exact ⟨rfl, by first | exact K | exact (K.tail.far4 (by simp only [Off]; repeat' (first | exact trivial | refine And.intro ?_ ?_ | omega)) (by omega) _ _ _ _).cons (K.2.1.1.put4 _ _ _ _)⟩
  case rest =>
    obtain ⟨rfl, K1⟩ := hcut
    clear K F x0 x1 x2 x3 x4 x5 x6 x7 x8
    have R0 := K1
    clear K1
    obtain ⟨w0, hw0⟩ : ∃ w0, w0 = wc := ⟨_, rfl⟩
    rw [← hw0] at R0
    have LT := R0.lts
    simp only [Lts] at LT
    have hs0 := R0.bel.size
    go_upto_region 8 with fail
    rw [← hw0]
    clear hw0
    go_cut [10] (fun p wc => ∃ P : Nat, p = .pointer (some ⟨P, 0, none⟩) ∧ w.heap.size + 1 + 1 + 1 < P ∧ Kn w [(P, [.int .u64 fh, .int .u64 fl], 24), (X, [.bool v, .int .u64 qh, .int .u64 ql, .int .i64 c], 28), (w.heap.size + 1 + 1 + 1, [.int .u64 0, .int .u64 0], 24), (w.heap.size + 1 + 1, [.int .u64 0, .int .u64 0], 24), (w.heap.size + 1, [.bool v, .int .u64 qh, .int .u64 ql, .int .i64 c], 28), (w.heap.size, [.bool v, .int .u64 h, .int .u64 l, .int .i64 b], 28)] wc)
    case first =>
      clear E1 B2
      refine wp_region_held_drew (S := (Kn w [(X, [.bool v, .int .u64 qh, .int .u64 ql, .int .i64 c], 28), (w.heap.size + 1 + 1 + 1, [.int .u64 0, .int .u64 0], 24), (w.heap.size + 1 + 1, [.int .u64 0, .int .u64 0], 24), (w.heap.size + 1, [.bool v, .int .u64 qh, .int .u64 ql, .int .i64 c], 28), (w.heap.size, [.bool v, .int .u64 h, .int .u64 l, .int .i64 b], 28)])) (by kernel_rfl) ?hS5057 (fun hHeld => ?rest5057)
      case hS5057 => (first | with_reducible exact R0.drew | with_reducible exact (R0.alloc _).drew | with_reducible exact hHeld.below hb4 | with_reducible exact hHeld.below hb5 | with_reducible exact hHeld.alloc _ | with_reducible exact K5.alloc _ | with_reducible exact hHeld.far2 (by simp only [Off]; repeat' (first | exact trivial | refine And.intro ?_ ?_ | omega)) (by omega) _ _ | with_reducible exact K5.far2 (by simp only [Off]; repeat' (first | exact trivial | refine And.intro ?_ ?_ | omega)) (by omega) _ _ | with_reducible exact (K5.alloc _).far2 (by simp only [Off]; repeat' (first | exact trivial | refine And.intro ?_ ?_ | omega)) (by omega) _ _)
      refine wtk7 (i := 0) (v := ?v5058) (ga7 rfl) (by kernel_rfl) (fun _ _ _ h => h) ⟨by rfl, ?hy5058⟩ (by assumption) ?rest5058
      case hy5058 => (intro wq hSw; (try simp only [Two, Kn, Facts, CellsAt] at hSw); go_simp; try with_reducible rfl)
      try simp only [Act.put, sa7, sb7, sc7]
      refine wtk7 (i := 1) (v := ?v5059) (ga7 rfl) (by kernel_rfl) (fun _ _ _ h => h) ⟨by rfl, ?hy5059⟩ (by assumption) ?rest5059
      case hy5059 => (intro wq hSw; (try simp only [Two, Kn, Facts, CellsAt] at hSw); go_simp; try with_reducible rfl)
      try simp only [Act.put, sa7, sb7, sc7]
      refine wtk7 (i := 2) (v := ?v5060) (ga7 rfl) (by kernel_rfl) (fun _ _ _ h => h) ⟨by rfl, ?hy5060⟩ (by assumption) ?rest5060
      case hy5060 => (intro wq hSw; (try simp only [Two, Kn, Facts, CellsAt] at hSw); go_simp; try with_reducible rfl)
      try simp only [Act.put, sa7, sb7, sc7]
      refine wpAnyH_ready (rs := [3, 5]) (by kernel_rfl) (by simp) ?rdy5061
      refine (AllReadyH.cons (ga7 rfl) (fun K hK => ?stp5061_3) (AllReadyH.cons (ga7 rfl) (fun K hK => ?stp5061_5) AllReadyH.nil))
      case stp5061_3 =>
        go_simp
        go_wp2_with fail
        (refine (F1.out _).mono ?_; rintro e w4 ⟨rfl, hb4⟩; have s4 : w0.heap.size ≤ w4.heap.size := (by have := hb4.size; first | exact this | (simp at this; omega)); first | (have U4 : Blk w4 w0.heap.size #[.int .u64 0, .int .u64 0] 24 := Blk.via hb4 (Blk.new w0 #[.int .u64 0, .int .u64 0] 24) rfl; obtain ⟨u0, u1, u2, u3, u4⟩ := U4.two) | skip)
        go_wp2_with fail
        refine hK.out _ _ ?hSn5062 (fun hHeld2 => ?rest5062)
        case hSn5062 => (first | with_reducible exact R0.drew | with_reducible exact (R0.alloc _).drew | with_reducible exact hHeld.below hb4 | with_reducible exact hHeld.below hb5 | with_reducible exact hHeld.alloc _ | with_reducible exact K5.alloc _ | with_reducible exact hHeld.far2 (by simp only [Off]; repeat' (first | exact trivial | refine And.intro ?_ ?_ | omega)) (by omega) _ _ | with_reducible exact K5.far2 (by simp only [Off]; repeat' (first | exact trivial | refine And.intro ?_ ?_ | omega)) (by omega) _ _ | with_reducible exact (K5.alloc _).far2 (by simp only [Off]; repeat' (first | exact trivial | refine And.intro ?_ ?_ | omega)) (by omega) _ _)
        clear hK K hHeld
        have hHeld := hHeld2
        clear hHeld2
        try simp only [Act.put, sa7, sb7, sc7]
        refine wpAnyH_ready (rs := [4, 5]) (by kernel_rfl) (by simp) ?rdy5063
        refine (AllReadyH.cons (ga7 rfl) (fun K hK => ?stp5063_4) (AllReadyH.cons (ga7 rfl) (fun K hK => ?stp5063_5) AllReadyH.nil))
        case stp5063_4 =>
          go_simp
          go_wp2_with fail
          (refine (B1.out _).mono ?_; rintro e w5 ⟨rfl, hb5⟩; have K5 := hHeld.below hb5; have s5 : w4.heap.size ≤ w5.heap.size := (by have := hb5.size; first | exact this | (simp at this; omega)); first | (have U5 := U4.below hb5; obtain ⟨a0, a1, a2, a3, a4⟩ := U5.two) | (have U5 : Blk w5 w4.heap.size #[.int .u64 0, .int .u64 0] 24 := Blk.via hb5 (Blk.new w4 #[.int .u64 0, .int .u64 0] 24) rfl; obtain ⟨p0, p1, p2, p3, p4⟩ := U5.two) | skip)
          go_wp2_with fail
          refine hK.out _ _ ?hSn5064 (fun hHeld2 => ?rest5064)
          case hSn5064 => (first | with_reducible exact R0.drew | with_reducible exact (R0.alloc _).drew | with_reducible exact hHeld.below hb4 | with_reducible exact hHeld.below hb5 | with_reducible exact hHeld.alloc _ | with_reducible exact K5.alloc _ | with_reducible exact hHeld.far2 (by simp only [Off]; repeat' (first | exact trivial | refine And.intro ?_ ?_ | omega)) (by omega) _ _ | with_reducible exact K5.far2 (by simp only [Off]; repeat' (first | exact trivial | refine And.intro ?_ ?_ | omega)) (by omega) _ _ | with_reducible exact (K5.alloc _).far2 (by simp only [Off]; repeat' (first | exact trivial | refine And.intro ?_ ?_ | omega)) (by omega) _ _)
          clear hK K hHeld
          have hHeld := hHeld2
          clear hHeld2
          try simp only [Act.put, sa7, sb7, sc7]
          refine wpAnyH_ready (rs := [5]) (by kernel_rfl) (by simp) ?rdy5065
          refine (AllReadyH.cons (ga7 rfl) (fun K hK => ?stp5065_5) AllReadyH.nil)
          case stp5065_5 =>
            go_simp
            go_wp2_with fail
            refine hK.out _ _ ?hSn5066 (fun hHeld2 => ?rest5066)
            case hSn5066 => (first | with_reducible exact R0.drew | with_reducible exact (R0.alloc _).drew | with_reducible exact hHeld.below hb4 | with_reducible exact hHeld.below hb5 | with_reducible exact hHeld.alloc _ | with_reducible exact K5.alloc _ | with_reducible exact hHeld.far2 (by simp only [Off]; repeat' (first | exact trivial | refine And.intro ?_ ?_ | omega)) (by omega) _ _ | with_reducible exact K5.far2 (by simp only [Off]; repeat' (first | exact trivial | refine And.intro ?_ ?_ | omega)) (by omega) _ _ | with_reducible exact (K5.alloc _).far2 (by simp only [Off]; repeat' (first | exact trivial | refine And.intro ?_ ?_ | omega)) (by omega) _ _)
            clear hK K hHeld
            have hHeld := hHeld2
            clear hHeld2
            try simp only [Act.put, sa7, sb7, sc7]
            refine wpAnyH_ready (rs := [6]) (by kernel_rfl) (by simp) ?rdy5067
            refine (AllReadyH.cons (ga7 rfl) (fun K hK => ?stp5067_6) AllReadyH.nil)
            case stp5067_6 =>
              go_simp
              go_wp2_with fail
              refine hK.out _ _ ?hSn5068 (fun hHeld2 => ?rest5068)
              case hSn5068 => (first | with_reducible exact R0.drew | with_reducible exact (R0.alloc _).drew | with_reducible exact hHeld.below hb4 | with_reducible exact hHeld.below hb5 | with_reducible exact hHeld.alloc _ | with_reducible exact K5.alloc _ | with_reducible exact hHeld.far2 (by simp only [Off]; repeat' (first | exact trivial | refine And.intro ?_ ?_ | omega)) (by omega) _ _ | with_reducible exact K5.far2 (by simp only [Off]; repeat' (first | exact trivial | refine And.intro ?_ ?_ | omega)) (by omega) _ _ | with_reducible exact (K5.alloc _).far2 (by simp only [Off]; repeat' (first | exact trivial | refine And.intro ?_ ?_ | omega)) (by omega) _ _)
              clear hK K hHeld
              have hHeld := hHeld2
              clear hHeld2
              try simp only [Act.put, sa7, sb7, sc7]
              refine wpAnyH_done (by kernel_rfl) ?_ _
              go_wp2_with fail
              go_meet
              case rel => exact ⟨_, rfl, (by omega), hHeld.cons (by repeat (first | with_reducible exact Blk.new _ _ _ | with_reducible exact U5 | with_reducible refine Blk.put2 (x := .int .u64 0) (y := .int .u64 0) ?_ _ _))⟩
        case stp5063_5 =>
          go_simp
          go_wp2_with fail
          refine hK.out _ _ ?hSn5069 (fun hHeld2 => ?rest5069)
          case hSn5069 => (first | with_reducible exact R0.drew | with_reducible exact (R0.alloc _).drew | with_reducible exact hHeld.below hb4 | with_reducible exact hHeld.below hb5 | with_reducible exact hHeld.alloc _ | with_reducible exact K5.alloc _ | with_reducible exact hHeld.far2 (by simp only [Off]; repeat' (first | exact trivial | refine And.intro ?_ ?_ | omega)) (by omega) _ _ | with_reducible exact K5.far2 (by simp only [Off]; repeat' (first | exact trivial | refine And.intro ?_ ?_ | omega)) (by omega) _ _ | with_reducible exact (K5.alloc _).far2 (by simp only [Off]; repeat' (first | exact trivial | refine And.intro ?_ ?_ | omega)) (by omega) _ _)
          clear hK K hHeld
          have hHeld := hHeld2
          clear hHeld2
          try simp only [Act.put, sa7, sb7, sc7]
          refine wpAnyH_ready (rs := [4]) (by kernel_rfl) (by simp) ?rdy5070
          refine (AllReadyH.cons (ga7 rfl) (fun K hK => ?stp5070_4) AllReadyH.nil)
          case stp5070_4 =>
            go_simp
            go_wp2_with fail
            (refine (B1.out _).mono ?_; rintro e w5 ⟨rfl, hb5⟩; have K5 := hHeld.below hb5; have s5 : w4.heap.size ≤ w5.heap.size := (by have := hb5.size; first | exact this | (simp at this; omega)); first | (have U5 := U4.below hb5; obtain ⟨a0, a1, a2, a3, a4⟩ := U5.two) | (have U5 : Blk w5 w4.heap.size #[.int .u64 0, .int .u64 0] 24 := Blk.via hb5 (Blk.new w4 #[.int .u64 0, .int .u64 0] 24) rfl; obtain ⟨p0, p1, p2, p3, p4⟩ := U5.two) | skip)
            go_wp2_with fail
            refine hK.out _ _ ?hSn5071 (fun hHeld2 => ?rest5071)
            case hSn5071 => (first | with_reducible exact R0.drew | with_reducible exact (R0.alloc _).drew | with_reducible exact hHeld.below hb4 | with_reducible exact hHeld.below hb5 | with_reducible exact hHeld.alloc _ | with_reducible exact K5.alloc _ | with_reducible exact hHeld.far2 (by simp only [Off]; repeat' (first | exact trivial | refine And.intro ?_ ?_ | omega)) (by omega) _ _ | with_reducible exact K5.far2 (by simp only [Off]; repeat' (first | exact trivial | refine And.intro ?_ ?_ | omega)) (by omega) _ _ | with_reducible exact (K5.alloc _).far2 (by simp only [Off]; repeat' (first | exact trivial | refine And.intro ?_ ?_ | omega)) (by omega) _ _)
            clear hK K hHeld
            have hHeld := hHeld2
            clear hHeld2
            try simp only [Act.put, sa7, sb7, sc7]
            refine wpAnyH_ready (rs := [6]) (by kernel_rfl) (by simp) ?rdy5072
            refine (AllReadyH.cons (ga7 rfl) (fun K hK => ?stp5072_6) AllReadyH.nil)
            case stp5072_6 =>
              go_simp
              go_wp2_with fail
              refine hK.out _ _ ?hSn5073 (fun hHeld2 => ?rest5073)
              case hSn5073 => (first | with_reducible exact R0.drew | with_reducible exact (R0.alloc _).drew | with_reducible exact hHeld.below hb4 | with_reducible exact hHeld.below hb5 | with_reducible exact hHeld.alloc _ | with_reducible exact K5.alloc _ | with_reducible exact hHeld.far2 (by simp only [Off]; repeat' (first | exact trivial | refine And.intro ?_ ?_ | omega)) (by omega) _ _ | with_reducible exact K5.far2 (by simp only [Off]; repeat' (first | exact trivial | refine And.intro ?_ ?_ | omega)) (by omega) _ _ | with_reducible exact (K5.alloc _).far2 (by simp only [Off]; repeat' (first | exact trivial | refine And.intro ?_ ?_ | omega)) (by omega) _ _)
              clear hK K hHeld
              have hHeld := hHeld2
              clear hHeld2
              try simp only [Act.put, sa7, sb7, sc7]
              refine wpAnyH_done (by kernel_rfl) ?_ _
              go_wp2_with fail
              go_meet
              case rel => exact ⟨_, rfl, (by omega), hHeld.cons (by repeat (first | with_reducible exact Blk.new _ _ _ | with_reducible exact U5 | with_reducible refine Blk.put2 (x := .int .u64 0) (y := .int .u64 0) ?_ _ _))⟩
      case stp5061_5 =>
        go_simp
        go_wp2_with fail
        refine hK.out _ _ ?hSn5074 (fun hHeld2 => ?rest5074)
        case hSn5074 => (first | with_reducible exact R0.drew | with_reducible exact (R0.alloc _).drew | with_reducible exact hHeld.below hb4 | with_reducible exact hHeld.below hb5 | with_reducible exact hHeld.alloc _ | with_reducible exact K5.alloc _ | with_reducible exact hHeld.far2 (by simp only [Off]; repeat' (first | exact trivial | refine And.intro ?_ ?_ | omega)) (by omega) _ _ | with_reducible exact K5.far2 (by simp only [Off]; repeat' (first | exact trivial | refine And.intro ?_ ?_ | omega)) (by omega) _ _ | with_reducible exact (K5.alloc _).far2 (by simp only [Off]; repeat' (first | exact trivial | refine And.intro ?_ ?_ | omega)) (by omega) _ _)
        clear hK K hHeld
        have hHeld := hHeld2
        clear hHeld2
        try simp only [Act.put, sa7, sb7, sc7]
        refine wpAnyH_ready (rs := [3]) (by kernel_rfl) (by simp) ?rdy5075
        refine (AllReadyH.cons (ga7 rfl) (fun K hK => ?stp5075_3) AllReadyH.nil)
        case stp5075_3 =>
          go_simp
          go_wp2_with fail
          (refine (F1.out _).mono ?_; rintro e w4 ⟨rfl, hb4⟩; have s4 : w0.heap.size ≤ w4.heap.size := (by have := hb4.size; first | exact this | (simp at this; omega)); first | (have U4 : Blk w4 w0.heap.size #[.int .u64 0, .int .u64 0] 24 := Blk.via hb4 (Blk.new w0 #[.int .u64 0, .int .u64 0] 24) rfl; obtain ⟨u0, u1, u2, u3, u4⟩ := U4.two) | skip)
          go_wp2_with fail
          refine hK.out _ _ ?hSn5076 (fun hHeld2 => ?rest5076)
          case hSn5076 => (first | with_reducible exact R0.drew | with_reducible exact (R0.alloc _).drew | with_reducible exact hHeld.below hb4 | with_reducible exact hHeld.below hb5 | with_reducible exact hHeld.alloc _ | with_reducible exact K5.alloc _ | with_reducible exact hHeld.far2 (by simp only [Off]; repeat' (first | exact trivial | refine And.intro ?_ ?_ | omega)) (by omega) _ _ | with_reducible exact K5.far2 (by simp only [Off]; repeat' (first | exact trivial | refine And.intro ?_ ?_ | omega)) (by omega) _ _ | with_reducible exact (K5.alloc _).far2 (by simp only [Off]; repeat' (first | exact trivial | refine And.intro ?_ ?_ | omega)) (by omega) _ _)
          clear hK K hHeld
          have hHeld := hHeld2
          clear hHeld2
          try simp only [Act.put, sa7, sb7, sc7]
          refine wpAnyH_ready (rs := [4]) (by kernel_rfl) (by simp) ?rdy5077
          refine (AllReadyH.cons (ga7 rfl) (fun K hK => ?stp5077_4) AllReadyH.nil)
          case stp5077_4 =>
            go_simp
            go_wp2_with fail
            (refine (B1.out _).mono ?_; rintro e w5 ⟨rfl, hb5⟩; have K5 := hHeld.below hb5; have s5 : w4.heap.size ≤ w5.heap.size := (by have := hb5.size; first | exact this | (simp at this; omega)); first | (have U5 := U4.below hb5; obtain ⟨a0, a1, a2, a3, a4⟩ := U5.two) | (have U5 : Blk w5 w4.heap.size #[.int .u64 0, .int .u64 0] 24 := Blk.via hb5 (Blk.new w4 #[.int .u64 0, .int .u64 0] 24) rfl; obtain ⟨p0, p1, p2, p3, p4⟩ := U5.two) | skip)
            go_wp2_with fail
            refine hK.out _ _ ?hSn5078 (fun hHeld2 => ?rest5078)
            case hSn5078 => (first | with_reducible exact R0.drew | with_reducible exact (R0.alloc _).drew | with_reducible exact hHeld.below hb4 | with_reducible exact hHeld.below hb5 | with_reducible exact hHeld.alloc _ | with_reducible exact K5.alloc _ | with_reducible exact hHeld.far2 (by simp only [Off]; repeat' (first | exact trivial | refine And.intro ?_ ?_ | omega)) (by omega) _ _ | with_reducible exact K5.far2 (by simp only [Off]; repeat' (first | exact trivial | refine And.intro ?_ ?_ | omega)) (by omega) _ _ | with_reducible exact (K5.alloc _).far2 (by simp only [Off]; repeat' (first | exact trivial | refine And.intro ?_ ?_ | omega)) (by omega) _ _)
            clear hK K hHeld
            have hHeld := hHeld2
            clear hHeld2
            try simp only [Act.put, sa7, sb7, sc7]
            refine wpAnyH_ready (rs := [6]) (by kernel_rfl) (by simp) ?rdy5079
            refine (AllReadyH.cons (ga7 rfl) (fun K hK => ?stp5079_6) AllReadyH.nil)
            case stp5079_6 =>
              go_simp
              go_wp2_with fail
              refine hK.out _ _ ?hSn5080 (fun hHeld2 => ?rest5080)
              case hSn5080 => (first | with_reducible exact R0.drew | with_reducible exact (R0.alloc _).drew | with_reducible exact hHeld.below hb4 | with_reducible exact hHeld.below hb5 | with_reducible exact hHeld.alloc _ | with_reducible exact K5.alloc _ | with_reducible exact hHeld.far2 (by simp only [Off]; repeat' (first | exact trivial | refine And.intro ?_ ?_ | omega)) (by omega) _ _ | with_reducible exact K5.far2 (by simp only [Off]; repeat' (first | exact trivial | refine And.intro ?_ ?_ | omega)) (by omega) _ _ | with_reducible exact (K5.alloc _).far2 (by simp only [Off]; repeat' (first | exact trivial | refine And.intro ?_ ?_ | omega)) (by omega) _ _)
              clear hK K hHeld
              have hHeld := hHeld2
              clear hHeld2
              try simp only [Act.put, sa7, sb7, sc7]
              refine wpAnyH_done (by kernel_rfl) ?_ _
              go_wp2_with fail
              go_meet
              case rel => exact ⟨_, rfl, (by omega), hHeld.cons (by repeat (first | with_reducible exact Blk.new _ _ _ | with_reducible exact U5 | with_reducible refine Blk.put2 (x := .int .u64 0) (y := .int .u64 0) ?_ _ _))⟩
    case rest =>
      obtain ⟨P, rfl, hP, K2⟩ := hcut
      clear R0 LT hs0 F1 B1
      have R0 := K2
      clear K2
      obtain ⟨w0, hw0⟩ : ∃ w0, w0 = wc := ⟨_, rfl⟩
      rw [← hw0] at R0
      have LT := R0.lts
      simp only [Lts] at LT
      have hs0 := R0.bel.size
      go_upto_region 9 with fail
      rw [← hw0]
      clear hw0
      go_cut [11] (fun p wc => ∃ Q : Nat, p = .pointer (some ⟨Q, 0, none⟩) ∧ w.heap.size + 1 + 1 + 1 < Q ∧ Kn w [(Q, [.int .u64 gh, .int .u64 gl], 24), (P, [.int .u64 fh, .int .u64 fl], 24), (X, [.bool v, .int .u64 qh, .int .u64 ql, .int .i64 c], 28), (w.heap.size + 1 + 1 + 1, [.int .u64 0, .int .u64 0], 24), (w.heap.size + 1 + 1, [.int .u64 0, .int .u64 0], 24), (w.heap.size + 1, [.bool v, .int .u64 qh, .int .u64 ql, .int .i64 c], 28), (w.heap.size, [.bool v, .int .u64 h, .int .u64 l, .int .i64 b], 28)] wc)
      case first =>
        refine wp_region_held_drew (S := (Kn w [(P, [.int .u64 fh, .int .u64 fl], 24), (X, [.bool v, .int .u64 qh, .int .u64 ql, .int .i64 c], 28), (w.heap.size + 1 + 1 + 1, [.int .u64 0, .int .u64 0], 24), (w.heap.size + 1 + 1, [.int .u64 0, .int .u64 0], 24), (w.heap.size + 1, [.bool v, .int .u64 qh, .int .u64 ql, .int .i64 c], 28), (w.heap.size, [.bool v, .int .u64 h, .int .u64 l, .int .i64 b], 28)])) (by kernel_rfl) ?hS5081 (fun hHeld => ?rest5081)
        case hS5081 => (first | with_reducible exact R0.drew | with_reducible exact (R0.alloc _).drew | with_reducible exact hHeld.below hb4 | with_reducible exact hHeld.below hb5 | with_reducible exact hHeld.alloc _ | with_reducible exact K5.alloc _ | with_reducible exact hHeld.far2 (by simp only [Off]; repeat' (first | exact trivial | refine And.intro ?_ ?_ | omega)) (by omega) _ _ | with_reducible exact K5.far2 (by simp only [Off]; repeat' (first | exact trivial | refine And.intro ?_ ?_ | omega)) (by omega) _ _ | with_reducible exact (K5.alloc _).far2 (by simp only [Off]; repeat' (first | exact trivial | refine And.intro ?_ ?_ | omega)) (by omega) _ _)
        refine wtk7 (i := 0) (v := ?v5082) (ga7 rfl) (by kernel_rfl) (fun _ _ _ h => h) ⟨by rfl, ?hy5082⟩ (by assumption) ?rest5082
        case hy5082 => (intro wq hSw; (try simp only [Two, Kn, Facts, CellsAt] at hSw); go_simp; try with_reducible rfl)
        try simp only [Act.put, sa7, sb7, sc7]
        refine wtk7 (i := 1) (v := ?v5083) (ga7 rfl) (by kernel_rfl) (fun _ _ _ h => h) ⟨by rfl, ?hy5083⟩ (by assumption) ?rest5083
        case hy5083 => (intro wq hSw; (try simp only [Two, Kn, Facts, CellsAt] at hSw); go_simp; try with_reducible rfl)
        try simp only [Act.put, sa7, sb7, sc7]
        refine wtk7 (i := 2) (v := ?v5084) (ga7 rfl) (by kernel_rfl) (fun _ _ _ h => h) ⟨by rfl, ?hy5084⟩ (by assumption) ?rest5084
        case hy5084 => (intro wq hSw; (try simp only [Two, Kn, Facts, CellsAt] at hSw); go_simp; try with_reducible rfl)
        try simp only [Act.put, sa7, sb7, sc7]
        refine wpAnyH_ready (rs := [3, 5]) (by kernel_rfl) (by simp) ?rdy5085
        refine (AllReadyH.cons (ga7 rfl) (fun K hK => ?stp5085_3) (AllReadyH.cons (ga7 rfl) (fun K hK => ?stp5085_5) AllReadyH.nil))
        case stp5085_3 =>
          go_simp
          go_wp2_with fail
          (refine (E1.out _).mono ?_; rintro e w4 ⟨rfl, hb4⟩; have s4 : w0.heap.size ≤ w4.heap.size := (by have := hb4.size; first | exact this | (simp at this; omega)); first | (have U4 : Blk w4 w0.heap.size #[.int .u64 0, .int .u64 0] 24 := Blk.via hb4 (Blk.new w0 #[.int .u64 0, .int .u64 0] 24) rfl; obtain ⟨u0, u1, u2, u3, u4⟩ := U4.two) | skip)
          go_wp2_with fail
          refine hK.out _ _ ?hSn5086 (fun hHeld2 => ?rest5086)
          case hSn5086 => (first | with_reducible exact R0.drew | with_reducible exact (R0.alloc _).drew | with_reducible exact hHeld.below hb4 | with_reducible exact hHeld.below hb5 | with_reducible exact hHeld.alloc _ | with_reducible exact K5.alloc _ | with_reducible exact hHeld.far2 (by simp only [Off]; repeat' (first | exact trivial | refine And.intro ?_ ?_ | omega)) (by omega) _ _ | with_reducible exact K5.far2 (by simp only [Off]; repeat' (first | exact trivial | refine And.intro ?_ ?_ | omega)) (by omega) _ _ | with_reducible exact (K5.alloc _).far2 (by simp only [Off]; repeat' (first | exact trivial | refine And.intro ?_ ?_ | omega)) (by omega) _ _)
          clear hK K hHeld
          have hHeld := hHeld2
          clear hHeld2
          try simp only [Act.put, sa7, sb7, sc7]
          refine wpAnyH_ready (rs := [4, 5]) (by kernel_rfl) (by simp) ?rdy5087
          refine (AllReadyH.cons (ga7 rfl) (fun K hK => ?stp5087_4) (AllReadyH.cons (ga7 rfl) (fun K hK => ?stp5087_5) AllReadyH.nil))
          case stp5087_4 =>
            go_simp
            go_wp2_with fail
            (refine (B2.out _).mono ?_; rintro e w5 ⟨rfl, hb5⟩; have K5 := hHeld.below hb5; have s5 : w4.heap.size ≤ w5.heap.size := (by have := hb5.size; first | exact this | (simp at this; omega)); first | (have U5 := U4.below hb5; obtain ⟨a0, a1, a2, a3, a4⟩ := U5.two) | (have U5 : Blk w5 w4.heap.size #[.int .u64 0, .int .u64 0] 24 := Blk.via hb5 (Blk.new w4 #[.int .u64 0, .int .u64 0] 24) rfl; obtain ⟨p0, p1, p2, p3, p4⟩ := U5.two) | skip)
            go_wp2_with fail
            refine hK.out _ _ ?hSn5088 (fun hHeld2 => ?rest5088)
            case hSn5088 => (first | with_reducible exact R0.drew | with_reducible exact (R0.alloc _).drew | with_reducible exact hHeld.below hb4 | with_reducible exact hHeld.below hb5 | with_reducible exact hHeld.alloc _ | with_reducible exact K5.alloc _ | with_reducible exact hHeld.far2 (by simp only [Off]; repeat' (first | exact trivial | refine And.intro ?_ ?_ | omega)) (by omega) _ _ | with_reducible exact K5.far2 (by simp only [Off]; repeat' (first | exact trivial | refine And.intro ?_ ?_ | omega)) (by omega) _ _ | with_reducible exact (K5.alloc _).far2 (by simp only [Off]; repeat' (first | exact trivial | refine And.intro ?_ ?_ | omega)) (by omega) _ _)
            clear hK K hHeld
            have hHeld := hHeld2
            clear hHeld2
            try simp only [Act.put, sa7, sb7, sc7]
            refine wpAnyH_ready (rs := [5]) (by kernel_rfl) (by simp) ?rdy5089
            refine (AllReadyH.cons (ga7 rfl) (fun K hK => ?stp5089_5) AllReadyH.nil)
            case stp5089_5 =>
              go_simp
              go_wp2_with fail
              refine hK.out _ _ ?hSn5090 (fun hHeld2 => ?rest5090)
              case hSn5090 => (first | with_reducible exact R0.drew | with_reducible exact (R0.alloc _).drew | with_reducible exact hHeld.below hb4 | with_reducible exact hHeld.below hb5 | with_reducible exact hHeld.alloc _ | with_reducible exact K5.alloc _ | with_reducible exact hHeld.far2 (by simp only [Off]; repeat' (first | exact trivial | refine And.intro ?_ ?_ | omega)) (by omega) _ _ | with_reducible exact K5.far2 (by simp only [Off]; repeat' (first | exact trivial | refine And.intro ?_ ?_ | omega)) (by omega) _ _ | with_reducible exact (K5.alloc _).far2 (by simp only [Off]; repeat' (first | exact trivial | refine And.intro ?_ ?_ | omega)) (by omega) _ _)
              clear hK K hHeld
              have hHeld := hHeld2
              clear hHeld2
              try simp only [Act.put, sa7, sb7, sc7]
              refine wpAnyH_ready (rs := [6]) (by kernel_rfl) (by simp) ?rdy5091
              refine (AllReadyH.cons (ga7 rfl) (fun K hK => ?stp5091_6) AllReadyH.nil)
              case stp5091_6 =>
                go_simp
                go_wp2_with fail
                refine hK.out _ _ ?hSn5092 (fun hHeld2 => ?rest5092)
                case hSn5092 => (first | with_reducible exact R0.drew | with_reducible exact (R0.alloc _).drew | with_reducible exact hHeld.below hb4 | with_reducible exact hHeld.below hb5 | with_reducible exact hHeld.alloc _ | with_reducible exact K5.alloc _ | with_reducible exact hHeld.far2 (by simp only [Off]; repeat' (first | exact trivial | refine And.intro ?_ ?_ | omega)) (by omega) _ _ | with_reducible exact K5.far2 (by simp only [Off]; repeat' (first | exact trivial | refine And.intro ?_ ?_ | omega)) (by omega) _ _ | with_reducible exact (K5.alloc _).far2 (by simp only [Off]; repeat' (first | exact trivial | refine And.intro ?_ ?_ | omega)) (by omega) _ _)
                clear hK K hHeld
                have hHeld := hHeld2
                clear hHeld2
                try simp only [Act.put, sa7, sb7, sc7]
                refine wpAnyH_done (by kernel_rfl) ?_ _
                go_wp2_with fail
                go_meet
                case rel => exact ⟨_, rfl, (by omega), hHeld.cons (by repeat (first | with_reducible exact Blk.new _ _ _ | with_reducible exact U5 | with_reducible refine Blk.put2 (x := .int .u64 0) (y := .int .u64 0) ?_ _ _))⟩
          case stp5087_5 =>
            go_simp
            go_wp2_with fail
            refine hK.out _ _ ?hSn5093 (fun hHeld2 => ?rest5093)
            case hSn5093 => (first | with_reducible exact R0.drew | with_reducible exact (R0.alloc _).drew | with_reducible exact hHeld.below hb4 | with_reducible exact hHeld.below hb5 | with_reducible exact hHeld.alloc _ | with_reducible exact K5.alloc _ | with_reducible exact hHeld.far2 (by simp only [Off]; repeat' (first | exact trivial | refine And.intro ?_ ?_ | omega)) (by omega) _ _ | with_reducible exact K5.far2 (by simp only [Off]; repeat' (first | exact trivial | refine And.intro ?_ ?_ | omega)) (by omega) _ _ | with_reducible exact (K5.alloc _).far2 (by simp only [Off]; repeat' (first | exact trivial | refine And.intro ?_ ?_ | omega)) (by omega) _ _)
            clear hK K hHeld
            have hHeld := hHeld2
            clear hHeld2
            try simp only [Act.put, sa7, sb7, sc7]
            refine wpAnyH_ready (rs := [4]) (by kernel_rfl) (by simp) ?rdy5094
            refine (AllReadyH.cons (ga7 rfl) (fun K hK => ?stp5094_4) AllReadyH.nil)
            case stp5094_4 =>
              go_simp
              go_wp2_with fail
              (refine (B2.out _).mono ?_; rintro e w5 ⟨rfl, hb5⟩; have K5 := hHeld.below hb5; have s5 : w4.heap.size ≤ w5.heap.size := (by have := hb5.size; first | exact this | (simp at this; omega)); first | (have U5 := U4.below hb5; obtain ⟨a0, a1, a2, a3, a4⟩ := U5.two) | (have U5 : Blk w5 w4.heap.size #[.int .u64 0, .int .u64 0] 24 := Blk.via hb5 (Blk.new w4 #[.int .u64 0, .int .u64 0] 24) rfl; obtain ⟨p0, p1, p2, p3, p4⟩ := U5.two) | skip)
              go_wp2_with fail
              refine hK.out _ _ ?hSn5095 (fun hHeld2 => ?rest5095)
              case hSn5095 => (first | with_reducible exact R0.drew | with_reducible exact (R0.alloc _).drew | with_reducible exact hHeld.below hb4 | with_reducible exact hHeld.below hb5 | with_reducible exact hHeld.alloc _ | with_reducible exact K5.alloc _ | with_reducible exact hHeld.far2 (by simp only [Off]; repeat' (first | exact trivial | refine And.intro ?_ ?_ | omega)) (by omega) _ _ | with_reducible exact K5.far2 (by simp only [Off]; repeat' (first | exact trivial | refine And.intro ?_ ?_ | omega)) (by omega) _ _ | with_reducible exact (K5.alloc _).far2 (by simp only [Off]; repeat' (first | exact trivial | refine And.intro ?_ ?_ | omega)) (by omega) _ _)
              clear hK K hHeld
              have hHeld := hHeld2
              clear hHeld2
              try simp only [Act.put, sa7, sb7, sc7]
              refine wpAnyH_ready (rs := [6]) (by kernel_rfl) (by simp) ?rdy5096
              refine (AllReadyH.cons (ga7 rfl) (fun K hK => ?stp5096_6) AllReadyH.nil)
              case stp5096_6 =>
                go_simp
                go_wp2_with fail
                refine hK.out _ _ ?hSn5097 (fun hHeld2 => ?rest5097)
                case hSn5097 => (first | with_reducible exact R0.drew | with_reducible exact (R0.alloc _).drew | with_reducible exact hHeld.below hb4 | with_reducible exact hHeld.below hb5 | with_reducible exact hHeld.alloc _ | with_reducible exact K5.alloc _ | with_reducible exact hHeld.far2 (by simp only [Off]; repeat' (first | exact trivial | refine And.intro ?_ ?_ | omega)) (by omega) _ _ | with_reducible exact K5.far2 (by simp only [Off]; repeat' (first | exact trivial | refine And.intro ?_ ?_ | omega)) (by omega) _ _ | with_reducible exact (K5.alloc _).far2 (by simp only [Off]; repeat' (first | exact trivial | refine And.intro ?_ ?_ | omega)) (by omega) _ _)
                clear hK K hHeld
                have hHeld := hHeld2
                clear hHeld2
                try simp only [Act.put, sa7, sb7, sc7]
                refine wpAnyH_done (by kernel_rfl) ?_ _
                go_wp2_with fail
                go_meet
                case rel => exact ⟨_, rfl, (by omega), hHeld.cons (by repeat (first | with_reducible exact Blk.new _ _ _ | with_reducible exact U5 | with_reducible refine Blk.put2 (x := .int .u64 0) (y := .int .u64 0) ?_ _ _))⟩
        case stp5085_5 =>
          go_simp
          go_wp2_with fail
          refine hK.out _ _ ?hSn5098 (fun hHeld2 => ?rest5098)
          case hSn5098 => (first | with_reducible exact R0.drew | with_reducible exact (R0.alloc _).drew | with_reducible exact hHeld.below hb4 | with_reducible exact hHeld.below hb5 | with_reducible exact hHeld.alloc _ | with_reducible exact K5.alloc _ | with_reducible exact hHeld.far2 (by simp only [Off]; repeat' (first | exact trivial | refine And.intro ?_ ?_ | omega)) (by omega) _ _ | with_reducible exact K5.far2 (by simp only [Off]; repeat' (first | exact trivial | refine And.intro ?_ ?_ | omega)) (by omega) _ _ | with_reducible exact (K5.alloc _).far2 (by simp only [Off]; repeat' (first | exact trivial | refine And.intro ?_ ?_ | omega)) (by omega) _ _)
          clear hK K hHeld
          have hHeld := hHeld2
          clear hHeld2
          try simp only [Act.put, sa7, sb7, sc7]
          refine wpAnyH_ready (rs := [3]) (by kernel_rfl) (by simp) ?rdy5099
          refine (AllReadyH.cons (ga7 rfl) (fun K hK => ?stp5099_3) AllReadyH.nil)
          case stp5099_3 =>
            go_simp
            go_wp2_with fail
            (refine (E1.out _).mono ?_; rintro e w4 ⟨rfl, hb4⟩; have s4 : w0.heap.size ≤ w4.heap.size := (by have := hb4.size; first | exact this | (simp at this; omega)); first | (have U4 : Blk w4 w0.heap.size #[.int .u64 0, .int .u64 0] 24 := Blk.via hb4 (Blk.new w0 #[.int .u64 0, .int .u64 0] 24) rfl; obtain ⟨u0, u1, u2, u3, u4⟩ := U4.two) | skip)
            go_wp2_with fail
            refine hK.out _ _ ?hSn5100 (fun hHeld2 => ?rest5100)
            case hSn5100 => (first | with_reducible exact R0.drew | with_reducible exact (R0.alloc _).drew | with_reducible exact hHeld.below hb4 | with_reducible exact hHeld.below hb5 | with_reducible exact hHeld.alloc _ | with_reducible exact K5.alloc _ | with_reducible exact hHeld.far2 (by simp only [Off]; repeat' (first | exact trivial | refine And.intro ?_ ?_ | omega)) (by omega) _ _ | with_reducible exact K5.far2 (by simp only [Off]; repeat' (first | exact trivial | refine And.intro ?_ ?_ | omega)) (by omega) _ _ | with_reducible exact (K5.alloc _).far2 (by simp only [Off]; repeat' (first | exact trivial | refine And.intro ?_ ?_ | omega)) (by omega) _ _)
            clear hK K hHeld
            have hHeld := hHeld2
            clear hHeld2
            try simp only [Act.put, sa7, sb7, sc7]
            refine wpAnyH_ready (rs := [4]) (by kernel_rfl) (by simp) ?rdy5101
            refine (AllReadyH.cons (ga7 rfl) (fun K hK => ?stp5101_4) AllReadyH.nil)
            case stp5101_4 =>
              go_simp
              go_wp2_with fail
              (refine (B2.out _).mono ?_; rintro e w5 ⟨rfl, hb5⟩; have K5 := hHeld.below hb5; have s5 : w4.heap.size ≤ w5.heap.size := (by have := hb5.size; first | exact this | (simp at this; omega)); first | (have U5 := U4.below hb5; obtain ⟨a0, a1, a2, a3, a4⟩ := U5.two) | (have U5 : Blk w5 w4.heap.size #[.int .u64 0, .int .u64 0] 24 := Blk.via hb5 (Blk.new w4 #[.int .u64 0, .int .u64 0] 24) rfl; obtain ⟨p0, p1, p2, p3, p4⟩ := U5.two) | skip)
              go_wp2_with fail
              refine hK.out _ _ ?hSn5102 (fun hHeld2 => ?rest5102)
              case hSn5102 => (first | with_reducible exact R0.drew | with_reducible exact (R0.alloc _).drew | with_reducible exact hHeld.below hb4 | with_reducible exact hHeld.below hb5 | with_reducible exact hHeld.alloc _ | with_reducible exact K5.alloc _ | with_reducible exact hHeld.far2 (by simp only [Off]; repeat' (first | exact trivial | refine And.intro ?_ ?_ | omega)) (by omega) _ _ | with_reducible exact K5.far2 (by simp only [Off]; repeat' (first | exact trivial | refine And.intro ?_ ?_ | omega)) (by omega) _ _ | with_reducible exact (K5.alloc _).far2 (by simp only [Off]; repeat' (first | exact trivial | refine And.intro ?_ ?_ | omega)) (by omega) _ _)
              clear hK K hHeld
              have hHeld := hHeld2
              clear hHeld2
              try simp only [Act.put, sa7, sb7, sc7]
              refine wpAnyH_ready (rs := [6]) (by kernel_rfl) (by simp) ?rdy5103
              refine (AllReadyH.cons (ga7 rfl) (fun K hK => ?stp5103_6) AllReadyH.nil)
              case stp5103_6 =>
                go_simp
                go_wp2_with fail
                refine hK.out _ _ ?hSn5104 (fun hHeld2 => ?rest5104)
                case hSn5104 => (first | with_reducible exact R0.drew | with_reducible exact (R0.alloc _).drew | with_reducible exact hHeld.below hb4 | with_reducible exact hHeld.below hb5 | with_reducible exact hHeld.alloc _ | with_reducible exact K5.alloc _ | with_reducible exact hHeld.far2 (by simp only [Off]; repeat' (first | exact trivial | refine And.intro ?_ ?_ | omega)) (by omega) _ _ | with_reducible exact K5.far2 (by simp only [Off]; repeat' (first | exact trivial | refine And.intro ?_ ?_ | omega)) (by omega) _ _ | with_reducible exact (K5.alloc _).far2 (by simp only [Off]; repeat' (first | exact trivial | refine And.intro ?_ ?_ | omega)) (by omega) _ _)
                clear hK K hHeld
                have hHeld := hHeld2
                clear hHeld2
                try simp only [Act.put, sa7, sb7, sc7]
                refine wpAnyH_done (by kernel_rfl) ?_ _
                go_wp2_with fail
                go_meet
                case rel => exact ⟨_, rfl, (by omega), hHeld.cons (by repeat (first | with_reducible exact Blk.new _ _ _ | with_reducible exact U5 | with_reducible refine Blk.put2 (x := .int .u64 0) (y := .int .u64 0) ?_ _ _))⟩
      case rest =>
        obtain ⟨Q, rfl, hQ, K3⟩ := hcut
        clear R0 LT hs0 E1 B2
        have R0 : Kn w [(Q, [.int .u64 gh, .int .u64 gl], 24), (P, [.int .u64 fh, .int .u64 fl], 24)] wc := Kn.of ⟨K3.2.1.1, K3.2.1.2.1, trivial⟩ K3.bel
        obtain ⟨s0, s1, s2, s3, s4⟩ := K3.2.1.2.2.2.1.two
        obtain ⟨r0, r1, r2, r3, r4⟩ := K3.2.1.2.2.2.2.1.two
        obtain ⟨p0, p1, p2, p3, p4⟩ := K3.2.1.2.1.two
        obtain ⟨q0, q1, q2, q3, q4⟩ := K3.2.1.1.two
        have B := K3.bel
        have hne := K3.2.1
        have ne1 : P ≠ w.heap.size + 1 + 1 := by omega
        have ne2 : P ≠ w.heap.size + 1 + 1 + 1 := by omega
        have ne3 : Q ≠ w.heap.size + 1 + 1 := by omega
        have ne4 : Q ≠ w.heap.size + 1 + 1 + 1 := by omega
        have of1 : Off (w.heap.size + 1 + 1) [(Q, [.int .u64 gh, .int .u64 gl], 24), (P, [.int .u64 fh, .int .u64 fl], 24)] := by simp only [Off]; exact ⟨ne3, ne1, trivial⟩
        have of2 : Off (w.heap.size + 1 + 1 + 1) [(Q, [.int .u64 gh, .int .u64 gl], 24), (P, [.int .u64 fh, .int .u64 fl], 24)] := by simp only [Off]; exact ⟨ne4, ne2, trivial⟩
        have le1 : w.heap.size ≤ w.heap.size + 1 + 1 := by omega
        have le2 : w.heap.size ≤ w.heap.size + 1 + 1 + 1 := by omega
        clear K3 hne
        go_upto_region 10 with fail
        refine wp_region_held_drew (S := (Kn w [(Q, [.int .u64 gh, .int .u64 gl], 24), (P, [.int .u64 fh, .int .u64 fl], 24)])) (by kernel_rfl) ?hS5105 (fun hHeld => ?rest5105)
        case hS5105 => (first | with_reducible exact R0.drew | with_reducible exact hHeld.far2 of1 le1 _ _ | with_reducible exact hHeld.far2 of2 le2 _ _ | with_reducible exact (R0.far2 of1 le1 _ _).drew | with_reducible exact ((R0.far2 of1 le1 _ _).far2 of2 le2 _ _).drew)
        refine wtk7 (i := 0) (v := ?v5106) (ga7 rfl) (by kernel_rfl) (fun _ _ _ h => h) ⟨by rfl, ?hy5106⟩ (by assumption) ?rest5106
        case hy5106 => (intro wq hSw; (try simp only [Two, Kn, Facts, CellsAt] at hSw); go_simp; try with_reducible rfl)
        try simp only [Act.put, sa7, sb7, sc7]
        refine wtk7 (i := 1) (v := ?v5107) (ga7 rfl) (by kernel_rfl) (fun _ _ _ h => h) ⟨by rfl, ?hy5107⟩ (by assumption) ?rest5107
        case hy5107 => (intro wq hSw; (try simp only [Two, Kn, Facts, CellsAt] at hSw); go_simp; try with_reducible rfl)
        try simp only [Act.put, sa7, sb7, sc7]
        refine wpAnyH_ready (rs := [2]) (by kernel_rfl) (by simp) ?rdy5108
        refine (AllReadyH.cons (ga7 rfl) (fun K hK => ?stp5108_2) AllReadyH.nil)
        case stp5108_2 =>
          go_simp
          go_wp2_with fail
          refine hK.out _ _ ?hSn5109 (fun hHeld2 => ?rest5109)
          case hSn5109 => (first | with_reducible exact R0.drew | with_reducible exact hHeld.far2 of1 le1 _ _ | with_reducible exact hHeld.far2 of2 le2 _ _ | with_reducible exact (R0.far2 of1 le1 _ _).drew | with_reducible exact ((R0.far2 of1 le1 _ _).far2 of2 le2 _ _).drew)
          clear hK K hHeld
          have hHeld := hHeld2
          clear hHeld2
          try simp only [Act.put, sa7, sb7, sc7]
          refine wpAnyH_ready (rs := [3]) (by kernel_rfl) (by simp) ?rdy5110
          refine (AllReadyH.cons (ga7 rfl) (fun K hK => ?stp5110_3) AllReadyH.nil)
          case stp5110_3 =>
            go_simp
            go_wp2_with fail
            refine hK.out _ _ ?hSn5111 (fun hHeld2 => ?rest5111)
            case hSn5111 => (first | with_reducible exact R0.drew | with_reducible exact hHeld.far2 of1 le1 _ _ | with_reducible exact hHeld.far2 of2 le2 _ _ | with_reducible exact (R0.far2 of1 le1 _ _).drew | with_reducible exact ((R0.far2 of1 le1 _ _).far2 of2 le2 _ _).drew)
            clear hK K hHeld
            have hHeld := hHeld2
            clear hHeld2
            try simp only [Act.put, sa7, sb7, sc7]
            refine wtk7 (i := 4) (v := ?v5112) (ga7 rfl) (by kernel_rfl) (fun _ _ _ h => h) ⟨by rfl, ?hy5112⟩ (by assumption) ?rest5112
            case hy5112 => (intro wq hSw; (try simp only [Two, Kn, Facts, CellsAt] at hSw); go_simp; try with_reducible rfl)
            try simp only [Act.put, sa7, sb7, sc7]
            refine wpAnyH_done (by kernel_rfl) ?_ _
            go_wp2
            refine bodyPost_ret (v := .tuple #[nv fh fl, nv gh gl, .int .i64 0]) (by simp [results, Tryz.results126, go_sem, World.cell?_setCell_same', World.cell?_setCell_other, *]) rfl ⟨rfl, by repeat (first | with_reducible exact Below.refl _ _ | with_reducible refine Below.drew ?_ | with_reducible refine Below.alloc ?_ (by first | omega | (simp <;> omega)) _ | with_reducible refine Below.setCell ?_ (by first | omega | (simp <;> omega)) _ | with_reducible refine Below.trans ?_ (Below.mono B (by first | omega | (simp <;> omega))))⟩

end Go.Proofs.YtllidkflgjjkfaaGreatDoor

/-
  Texts Pfx5 of the proof.
-/
import Derived.Test.YtipjmmhlfmahbaaGreatDoorP34

namespace Go.Proofs.YtipjmmhlfmahbaaGreatDoor
open Go.ChangeShapes Go.WideShapes Go.ChangeAt Go.RowKit
set_option linter.unusedVariables false
set_option linter.unusedSimpArgs false

/-- What Halves keeps behind the lower half. -/
def J3 (w : World) (v : Bool) (h l b : Int) (B : Nat) (wr : World) : Prop :=
  H3 w v h l b wr ∧ Blk wr B #[.bool v, .int .u64 h, .int .u64 l, .int .i64 (b + 1)] 28

theorem J3.below {w W w1 : World} {v : Bool} {h l b : Int} {B : Nat} (s : J3 w v h l b B W) (hb : Below W.heap.size W w1) : J3 w v h l b B w1 := ⟨s.1.below hb, s.2.below hb⟩

theorem J3.via {w W W0 w1 : World} {v : Bool} {h l b : Int} {B : Nat} (s : J3 w v h l b B W0) (hb : Below W.heap.size W w1) (e : W.heap = W0.heap) (e1 : W.os = W0.os) (e2 : W.tape = W0.tape) (e3 : W.output = W0.output) : J3 w v h l b B w1 := ⟨s.1.via hb e e1 e2 e3, s.2.via hb e⟩

theorem J3.alloc {w W : World} {v : Bool} {h l b : Int} {B : Nat} (s : J3 w v h l b B W) (o : Obj) : J3 w v h l b B (W.alloc o) := ⟨s.1.alloc o, s.2.alloc o⟩

theorem J3.far4 {w W : World} {v : Bool} {h l b : Int} {B c : Nat} (s : J3 w v h l b B W) (hc : w.heap.size + 2 < c ∧ B < c) (x y z q : Value) : J3 w v h l b B ((((W.setCell ⟨c, 0, none⟩ x).setCell ⟨c, 1, none⟩ y).setCell ⟨c, 2, none⟩ z).setCell ⟨c, 3, none⟩ q) := ⟨s.1.far4 hc.1 _ _ _ _, s.2.far4 (by omega) _ _ _ _⟩

theorem J3.p4 {w W : World} {v : Bool} {h l b : Int} {B : Nat} (s : J3 w v h l b B W) : P4 w.heap.size v h l b W := s.1.p4

theorem J3.p4a {w W : World} {v : Bool} {h l b : Int} {B : Nat} (s : J3 w v h l b B W) (o : Obj) : P4 w.heap.size v h l b (W.alloc o) := s.1.p4a o

theorem J3.p4f {w W : World} {v : Bool} {h l b : Int} {B c : Nat} (s : J3 w v h l b B W) (hc : w.heap.size + 2 < c ∧ B < c) (x y z q : Value) : P4 w.heap.size v h l b ((((W.setCell ⟨c, 0, none⟩ x).setCell ⟨c, 1, none⟩ y).setCell ⟨c, 2, none⟩ z).setCell ⟨c, 3, none⟩ q) := s.1.p4f hc.1 _ _ _ _

theorem J3.lt {w W : World} {v : Bool} {h l b : Int} {B : Nat} (s : J3 w v h l b B W) : w.heap.size + 2 < W.heap.size ∧ B < W.heap.size := ⟨s.1.2.2.1.lt, s.2.lt⟩

/-- Two prefixes' blocks that are read. -/
def PP (B C : Nat) (v : Bool) (h l b : Int) (u : Bool) (i m c : Int) (wx : World) : Prop :=
  (wx.cell? ⟨B, 0, none⟩ = some (.bool v) ∧ wx.cell? ⟨B, 1, none⟩ = some (.int .u64 h) ∧ wx.cell? ⟨B, 2, none⟩ = some (.int .u64 l) ∧ wx.cell? ⟨B, 3, none⟩ = some (.int .i64 b) ∧ wx.cell? ⟨C, 0, none⟩ = some (.bool u) ∧ wx.cell? ⟨C, 1, none⟩ = some (.int .u64 i) ∧ wx.cell? ⟨C, 2, none⟩ = some (.int .u64 m) ∧ wx.cell? ⟨C, 3, none⟩ = some (.int .i64 c)) ∧ Blk wx B #[.bool v, .int .u64 h, .int .u64 l, .int .i64 b] 28 ∧ Blk wx C #[.bool u, .int .u64 i, .int .u64 m, .int .i64 c] 28

theorem PP.of {B C : Nat} {v : Bool} {h l b : Int} {u : Bool} {i m c : Int} {wx : World} (x : Blk wx B #[.bool v, .int .u64 h, .int .u64 l, .int .i64 b] 28) (y : Blk wx C #[.bool u, .int .u64 i, .int .u64 m, .int .i64 c] 28) : PP B C v h l b u i m c wx :=
  ⟨⟨x.cell 0, x.cell 1, x.cell 2, x.cell 3, y.cell 0, y.cell 1, y.cell 2, y.cell 3⟩, x, y⟩

theorem PP.drew {B C : Nat} {v : Bool} {h l b : Int} {u : Bool} {i m c : Int} {wx : World} (s : PP B C v h l b u i m c wx) : PP B C v h l b u i m c wx.drew := s

theorem PP.below {B C : Nat} {v : Bool} {h l b : Int} {u : Bool} {i m c : Int} {wx w1 : World} (s : PP B C v h l b u i m c wx) (hb : Below wx.heap.size wx w1) : PP B C v h l b u i m c w1 := PP.of (s.2.1.below hb) (s.2.2.below hb)

theorem PP.far4 {B C D : Nat} {v : Bool} {h l b : Int} {u : Bool} {i m c : Int} {wx : World} (s : PP B C v h l b u i m c wx) (h1 : B ≠ D) (h2 : C ≠ D) (x y z q : Value) : PP B C v h l b u i m c ((((wx.setCell ⟨D, 0, none⟩ x).setCell ⟨D, 1, none⟩ y).setCell ⟨D, 2, none⟩ z).setCell ⟨D, 3, none⟩ q) := PP.of (s.2.1.far4 h1 _ _ _ _) (s.2.2.far4 h2 _ _ _ _)

set_option maxRecDepth 100000 in
set_option maxHeartbeats 1600000 in
theorem half_ok {v : Bool} {h l b rh rl : Int} {a : Nat} (ha : IsNum h l a) (hk : okP v a b = true) (hW : b < widthA v) (hr : IsNum rh rl (a + 2 ^ (behindP v b - 1))) (w : World) :
    Calls Tryz.prog 10 #[pv v h l b] w fun e w' => e = .returned (.tuple #[pv v h l (b + 1), pv v rh rl (b + 1), .int .i64 0]) ∧ Below w.heap.size w w' := by
  obtain ⟨W, hWW⟩ : ∃ W, widthA v = W := ⟨_, rfl⟩
  have R : Hid (∀ w', Calls Tryz.prog 17 #[pv v h l b] w' fun e w1 => e = .returned (.bool true) ∧ Below w'.heap.size w' w1) := fun w' => hk ▸ pright_c ha w'
  have C1 : Hid (∀ w', Calls Tryz.prog 16 #[av v h l] w' fun e w1 => e = .returned (.int .i64 W) ∧ Below w'.heap.size w' w1) := fun w' => width_lit v W hWW h l w'
  obtain ⟨hf, hm⟩ := okP_parts hk
  obtain ⟨hok, h0, h1⟩ := fitsB_parts hf
  obtain ⟨l1, l2⟩ := lastN_small hk ha.lt
  obtain ⟨lh, ll, hl⟩ := IsNum.ex l1
  have CF : Hid (∀ w', Calls Tryz.prog 27 #[pv v h l b] w' fun e w1 => e = .returned (av v h l) ∧ Below w'.heap.size w' w1) := fun w' => first_c ha (Or.inl ⟨hk, rfl, rfl, rfl⟩) w'
  have CL : Hid (∀ w', Calls Tryz.prog 28 #[pv v h l b] w' fun e w1 => e = .returned (av v lh ll) ∧ Below w'.heap.size w' w1) := fun w' => last_ok ha hk hl w'
  have O1 : Hid (∀ w', Calls Tryz.prog 26 #[av v h l, .int .i64 (b + 1)] w' fun e w1 => e = .returned (.tuple #[pv v h l (b + 1), .int .i64 0]) ∧ Below w'.heap.size w' w1) := fun w' => of_ok ha (fits_up hok h0 hW) (ha.cast (ofN_self (ofN_low hW hm)).symm) w'
  have O2 : Hid (∀ w', Calls Tryz.prog 26 #[av v lh ll, .int .i64 (b + 1)] w' fun e w1 => e = .returned (.tuple #[pv v rh rl (b + 1), .int .i64 0]) ∧ Below w'.heap.size w' w1) := fun w' => of_ok hl (fits_up l2 h0 hW) (hr.cast (ofN_high hW hm).symm) w'
  have hw1 : IntKind.i64.wrap (b + 1) = b + 1 := by have := width_le v; simp [IntKind.wrap, IntKind.bits, IntKind.signed]; omega
  have R0 := H3.start w v h l b
  have hbW : (b == W) = false := by rw [← hWW]; simpa using (by omega : ¬ b = widthA v)
  have hbW2 : ¬ b = W := by omega
  clear hk ha hW hWW hf hm hok h0 h1 l1 l2 hl hr
  go_enter Tryz.func10, Tryz.ntmps10
  go_wp2_with fail
  refine (R.out _).mono ?_
  rintro e w1 ⟨rfl, hb1⟩
  have R1 := R0.below hb1
  clear R R0 hb1
  go_wp2_with fail
  have S0 : P4 w.heap.size v h l b w1 := P4.of R1.1
  refine wp_region_held_drew (S := (P4 w.heap.size v h l b)) (by kernel_rfl) ?hS100 (fun hHeld => ?rest100)
  case hS100 => (first | with_reducible exact S0.drew | exact hHeld.below hb3)
  refine wpAnyH_take (i := 0) (oi := _) (v := ?v101) (List.getElem?_toArray.trans rfl) (by kernel_rfl) (by kernel_rfl) (by kernel_rfl) (fun _ _ _ h => h) (Or.inl ⟨by rfl, ?hy101⟩) (by assumption) ?rest101
  case hy101 => (intro wq hSw; (try simp only [Two, P4] at hSw); go_simp; try with_reducible rfl)
  try simp only [Act.put, List.setIfInBounds_toArray, List.set_cons_zero, List.set_cons_succ]
  refine wpAnyH_take (i := 1) (oi := _) (v := ?v102) (List.getElem?_toArray.trans rfl) (by kernel_rfl) (by kernel_rfl) (by kernel_rfl) (fun _ _ _ h => h) (Or.inl ⟨by rfl, ?hy102⟩) (by assumption) ?rest102
  case hy102 => (intro wq hSw; (try simp only [Two, P4] at hSw); go_simp; try with_reducible rfl)
  try simp only [Act.put, List.setIfInBounds_toArray, List.set_cons_zero, List.set_cons_succ]
  refine wpAnyH_take (i := 2) (oi := _) (v := ?v103) (List.getElem?_toArray.trans rfl) (by kernel_rfl) (by kernel_rfl) (by kernel_rfl) (fun _ _ _ h => h) (Or.inl ⟨by rfl, ?hy103⟩) (by assumption) ?rest103
  case hy103 => (intro wq hSw; (try simp only [Two, P4] at hSw); go_simp; try with_reducible rfl)
  try simp only [Act.put, List.setIfInBounds_toArray, List.set_cons_zero, List.set_cons_succ]
  refine wpAnyH_take (i := 3) (oi := _) (v := ?v104) (List.getElem?_toArray.trans rfl) (by kernel_rfl) (by kernel_rfl) (by kernel_rfl) (fun _ _ _ h => h) (Or.inl ⟨by rfl, ?hy104⟩) (by assumption) ?rest104
  case hy104 => (intro wq hSw; (try simp only [Two, P4] at hSw); go_simp; try with_reducible rfl)
  try simp only [Act.put, List.setIfInBounds_toArray, List.set_cons_zero, List.set_cons_succ]
  refine wpAnyH_ready (rs := [4]) (by kernel_rfl) (by simp) ?rdy105
  refine AllReadyH.cons (List.getElem?_toArray.trans rfl) (fun K hK => ?stp105) AllReadyH.nil
  go_simp
  go_wp2_with fail
  (refine (C1.out _).mono ?_; rintro e w3 ⟨rfl, hb3⟩; have R3 := R1.via hb3 rfl rfl rfl rfl)
  go_wp2_with fail
  refine hK.out _ _ ?hSn105 (fun hHeld2 => ?rest105)
  case hSn105 => (first | with_reducible exact S0.drew | exact hHeld.below hb3)
  clear hK K hHeld
  have hHeld := hHeld2
  clear hHeld2
  try simp only [Act.put, List.setIfInBounds_toArray, List.set_cons_zero, List.set_cons_succ]
  refine wpAnyH_take (i := 5) (oi := _) (v := ?v106) (List.getElem?_toArray.trans rfl) (by kernel_rfl) (by kernel_rfl) (by kernel_rfl) (fun _ _ _ h => h) (Or.inl ⟨by rfl, ?hy106⟩) (by assumption) ?rest106
  case hy106 => (intro wq hSw; (try simp only [Two, P4] at hSw); go_simp; try with_reducible rfl)
  try simp only [Act.put, List.setIfInBounds_toArray, List.set_cons_zero, List.set_cons_succ]
  refine wpAnyH_done (by kernel_rfl) ?fin100 _
  clear S0 hHeld
  go_upto_region 5 with fail
  go_cut [5, 6] (fun p t wc => ∃ B : Nat, p = .pointer (some ⟨B, 0, none⟩) ∧ t = .int .i64 0 ∧ w.heap.size + 2 < B ∧ Blk wc B #[.bool v, .int .u64 h, .int .u64 l, .int .i64 (b + 1)] 28 ∧ H3 w v h l b wc)
  case first =>
    have S0 : P4 w.heap.size v h l b w3 := P4.of R3.1
    refine wp_region_held_drew (S := (P4 w.heap.size v h l b)) (by kernel_rfl) ?hS5001 (fun hHeld => ?rest5001)
    case hS5001 => (first | with_reducible exact S0.drew | with_reducible exact R5.p4 | with_reducible exact R4.p4 | with_reducible exact R5.p4a _ | with_reducible exact R4.p4a _ | with_reducible exact (R3.p4a _).drew | with_reducible exact R3.p4a _ | with_reducible exact R5.p4f hne _ _ _ _)
    refine wpAnyH_take (i := 0) (oi := _) (v := ?v5002) (List.getElem?_toArray.trans rfl) (by kernel_rfl) (by kernel_rfl) (by kernel_rfl) (fun _ _ _ h => h) (Or.inl ⟨by rfl, ?hy5002⟩) (by assumption) ?rest5002
    case hy5002 => (intro wq hSw; (try simp only [Two, P4] at hSw); go_simp; try with_reducible rfl)
    try simp only [Act.put, List.setIfInBounds_toArray, List.set_cons_zero, List.set_cons_succ]
    refine wpAnyH_take (i := 2) (oi := _) (v := ?v5003) (List.getElem?_toArray.trans rfl) (by kernel_rfl) (by kernel_rfl) (by kernel_rfl) (fun _ _ _ h => h) (Or.inl ⟨by rfl, ?hy5003⟩) (by assumption) ?rest5003
    case hy5003 => (intro wq hSw; (try simp only [Two, P4] at hSw); go_simp; try with_reducible rfl)
    try simp only [Act.put, List.setIfInBounds_toArray, List.set_cons_zero, List.set_cons_succ]
    refine wpAnyH_take (i := 3) (oi := _) (v := ?v5004) (List.getElem?_toArray.trans rfl) (by kernel_rfl) (by kernel_rfl) (by kernel_rfl) (fun _ _ _ h => h) (Or.inl ⟨by rfl, ?hy5004⟩) (by assumption) ?rest5004
    case hy5004 => (intro wq hSw; (try simp only [Two, P4] at hSw); go_simp; try with_reducible rfl)
    try simp only [Act.put, List.setIfInBounds_toArray, List.set_cons_zero, List.set_cons_succ]
    refine wpAnyH_take (i := 4) (oi := _) (v := ?v5005) (List.getElem?_toArray.trans rfl) (by kernel_rfl) (by kernel_rfl) (by kernel_rfl) (fun _ _ _ h => h) (Or.inl ⟨by rfl, ?hy5005⟩) (by assumption) ?rest5005
    case hy5005 => (intro wq hSw; (try simp only [Two, P4] at hSw); go_simp; try with_reducible rfl)
    try simp only [Act.put, List.setIfInBounds_toArray, List.set_cons_zero, List.set_cons_succ]
    refine wpAnyH_ready (rs := [1, 9]) (by kernel_rfl) (by simp) ?rdy5006
    refine (AllReadyH.cons (List.getElem?_toArray.trans rfl) (fun K hK => ?stp5006_1) (AllReadyH.cons (List.getElem?_toArray.trans rfl) (fun K hK => ?stp5006_9) AllReadyH.nil))
    case stp5006_1 =>
      go_simp
      go_wp2_with fail
      (refine (CF.out _).mono ?_; rintro e w4 ⟨rfl, hb4⟩; first | (have R4 := R3.via hb4 rfl rfl rfl rfl) | (have R4 := (R3.alloc (.cells #[.bool false, .int .u64 0, .int .u64 0, .int .i64 0] 28)).via hb4 rfl rfl rfl rfl; have N4 : Blk w4 w3.heap.size #[.bool false, .int .u64 0, .int .u64 0, .int .i64 0] 28 := Blk.via hb4 (Blk.new w3 _ _) rfl))
      go_wp2_with fail
      refine hK.out _ _ ?hSn5007 (fun hHeld2 => ?rest5007)
      case hSn5007 => (first | with_reducible exact S0.drew | with_reducible exact R5.p4 | with_reducible exact R4.p4 | with_reducible exact R5.p4a _ | with_reducible exact R4.p4a _ | with_reducible exact (R3.p4a _).drew | with_reducible exact R3.p4a _ | with_reducible exact R5.p4f hne _ _ _ _)
      clear hK K hHeld
      have hHeld := hHeld2
      clear hHeld2
      try simp only [Act.put, List.setIfInBounds_toArray, List.set_cons_zero, List.set_cons_succ]
      refine wpAnyH_ready (rs := [5, 9]) (by kernel_rfl) (by simp) ?rdy5008
      refine (AllReadyH.cons (List.getElem?_toArray.trans rfl) (fun K hK => ?stp5008_5) (AllReadyH.cons (List.getElem?_toArray.trans rfl) (fun K hK => ?stp5008_9) AllReadyH.nil))
      case stp5008_5 =>
        go_simp
        go_wp2_with fail
        (refine (O1.out _).mono ?_; rintro e w5 ⟨rfl, hb5⟩; first | (have N5 := N4.below hb5; have R5 := R4.below hb5; obtain ⟨p0, p1, p2, p3, p4, p5, p6, p7, p8⟩ := N5.four; have hne := R3.2.2.1.lt) | (have R5 := R4.via hb5 rfl rfl rfl rfl) | (have R5 := (R4.alloc (.cells #[.bool false, .int .u64 0, .int .u64 0, .int .i64 0] 28)).via hb5 rfl rfl rfl rfl; have N5 : Blk w5 w4.heap.size #[.bool false, .int .u64 0, .int .u64 0, .int .i64 0] 28 := Blk.via hb5 (Blk.new w4 _ _) rfl; obtain ⟨p0, p1, p2, p3, p4, p5, p6, p7, p8⟩ := N5.four; have hne := R4.2.2.1.lt))
        go_wp2_with fail
        refine hK.out _ _ ?hSn5009 (fun hHeld2 => ?rest5009)
        case hSn5009 => (first | with_reducible exact S0.drew | with_reducible exact R5.p4 | with_reducible exact R4.p4 | with_reducible exact R5.p4a _ | with_reducible exact R4.p4a _ | with_reducible exact (R3.p4a _).drew | with_reducible exact R3.p4a _ | with_reducible exact R5.p4f hne _ _ _ _)
        clear hK K hHeld
        have hHeld := hHeld2
        clear hHeld2
        try simp only [Act.put, List.setIfInBounds_toArray, List.set_cons_zero, List.set_cons_succ]
        refine wpAnyH_take (i := 6) (oi := _) (v := ?v5010) (List.getElem?_toArray.trans rfl) (by kernel_rfl) (by kernel_rfl) (by kernel_rfl) (fun _ _ _ h => h) (Or.inl ⟨by rfl, ?hy5010⟩) (by assumption) ?rest5010
        case hy5010 => (intro wq hSw; (try simp only [Two, P4] at hSw); go_simp; try with_reducible rfl)
        try simp only [Act.put, List.setIfInBounds_toArray, List.set_cons_zero, List.set_cons_succ]
        refine wpAnyH_take (i := 7) (oi := _) (v := ?v5011) (List.getElem?_toArray.trans rfl) (by kernel_rfl) (by kernel_rfl) (by kernel_rfl) (fun _ _ _ h => h) (Or.inl ⟨by rfl, ?hy5011⟩) (by assumption) ?rest5011
        case hy5011 => (intro wq hSw; (try simp only [Two, P4] at hSw); go_simp; try with_reducible rfl)
        try simp only [Act.put, List.setIfInBounds_toArray, List.set_cons_zero, List.set_cons_succ]
        refine wpAnyH_take (i := 8) (oi := _) (v := ?v5012) (List.getElem?_toArray.trans rfl) (by kernel_rfl) (by kernel_rfl) (by kernel_rfl) (fun _ _ _ h => h) (Or.inl ⟨by rfl, ?hy5012⟩) (by assumption) ?rest5012
        case hy5012 => (intro wq hSw; (try simp only [Two, P4] at hSw); go_simp; try with_reducible rfl)
        try simp only [Act.put, List.setIfInBounds_toArray, List.set_cons_zero, List.set_cons_succ]
        refine wpAnyH_ready (rs := [9]) (by kernel_rfl) (by simp) ?rdy5013
        refine (AllReadyH.cons (List.getElem?_toArray.trans rfl) (fun K hK => ?stp5013_9) AllReadyH.nil)
        case stp5013_9 =>
          go_simp
          go_wp2_with fail
          refine hK.out _ _ ?hSn5014 (fun hHeld2 => ?rest5014)
          case hSn5014 => (first | with_reducible exact S0.drew | with_reducible exact R5.p4 | with_reducible exact R4.p4 | with_reducible exact R5.p4a _ | with_reducible exact R4.p4a _ | with_reducible exact (R3.p4a _).drew | with_reducible exact R3.p4a _ | with_reducible exact R5.p4f hne _ _ _ _)
          clear hK K hHeld
          have hHeld := hHeld2
          clear hHeld2
          try simp only [Act.put, List.setIfInBounds_toArray, List.set_cons_zero, List.set_cons_succ]
          refine wpAnyH_ready (rs := [10]) (by kernel_rfl) (by simp) ?rdy5015
          refine (AllReadyH.cons (List.getElem?_toArray.trans rfl) (fun K hK => ?stp5015_10) AllReadyH.nil)
          case stp5015_10 =>
            go_simp
            go_wp2_with fail
            refine hK.out _ _ ?hSn5016 (fun hHeld2 => ?rest5016)
            case hSn5016 => (first | with_reducible exact S0.drew | with_reducible exact R5.p4 | with_reducible exact R4.p4 | with_reducible exact R5.p4a _ | with_reducible exact R4.p4a _ | with_reducible exact (R3.p4a _).drew | with_reducible exact R3.p4a _ | with_reducible exact R5.p4f hne _ _ _ _)
            clear hK K hHeld
            have hHeld := hHeld2
            clear hHeld2
            try simp only [Act.put, List.setIfInBounds_toArray, List.set_cons_zero, List.set_cons_succ]
            refine wpAnyH_take (i := 11) (oi := _) (v := ?v5017) (List.getElem?_toArray.trans rfl) (by kernel_rfl) (by kernel_rfl) (by kernel_rfl) (fun _ _ _ h => h) (Or.inl ⟨by rfl, ?hy5017⟩) (by assumption) ?rest5017
            case hy5017 => (intro wq hSw; (try simp only [Two, P4] at hSw); go_simp; try with_reducible rfl)
            try simp only [Act.put, List.setIfInBounds_toArray, List.set_cons_zero, List.set_cons_succ]
            refine wpAnyH_done (by kernel_rfl) ?_ _
            go_wp2_with fail
            go_meet
            case rel => exact ⟨_, rfl, rfl, (by first | exact hne | exact R5.2.2.1.lt), (by first | with_reducible exact Blk.new _ _ _ | with_reducible exact N5.put4 _ _ _ _), (by first | with_reducible exact R5.alloc _ | with_reducible exact R5.far4 hne _ _ _ _)⟩
      case stp5008_9 =>
        go_simp
        go_wp2_with fail
        refine hK.out _ _ ?hSn5018 (fun hHeld2 => ?rest5018)
        case hSn5018 => (first | with_reducible exact S0.drew | with_reducible exact R5.p4 | with_reducible exact R4.p4 | with_reducible exact R5.p4a _ | with_reducible exact R4.p4a _ | with_reducible exact (R3.p4a _).drew | with_reducible exact R3.p4a _ | with_reducible exact R5.p4f hne _ _ _ _)
        clear hK K hHeld
        have hHeld := hHeld2
        clear hHeld2
        try simp only [Act.put, List.setIfInBounds_toArray, List.set_cons_zero, List.set_cons_succ]
        refine wpAnyH_ready (rs := [5]) (by kernel_rfl) (by simp) ?rdy5019
        refine (AllReadyH.cons (List.getElem?_toArray.trans rfl) (fun K hK => ?stp5019_5) AllReadyH.nil)
        case stp5019_5 =>
          go_simp
          go_wp2_with fail
          (refine (O1.out _).mono ?_; rintro e w5 ⟨rfl, hb5⟩; first | (have N5 := N4.below hb5; have R5 := R4.below hb5; obtain ⟨p0, p1, p2, p3, p4, p5, p6, p7, p8⟩ := N5.four; have hne := R3.2.2.1.lt) | (have R5 := R4.via hb5 rfl rfl rfl rfl) | (have R5 := (R4.alloc (.cells #[.bool false, .int .u64 0, .int .u64 0, .int .i64 0] 28)).via hb5 rfl rfl rfl rfl; have N5 : Blk w5 w4.heap.size #[.bool false, .int .u64 0, .int .u64 0, .int .i64 0] 28 := Blk.via hb5 (Blk.new w4 _ _) rfl; obtain ⟨p0, p1, p2, p3, p4, p5, p6, p7, p8⟩ := N5.four; have hne := R4.2.2.1.lt))
          go_wp2_with fail
          refine hK.out _ _ ?hSn5020 (fun hHeld2 => ?rest5020)
          case hSn5020 => (first | with_reducible exact S0.drew | with_reducible exact R5.p4 | with_reducible exact R4.p4 | with_reducible exact R5.p4a _ | with_reducible exact R4.p4a _ | with_reducible exact (R3.p4a _).drew | with_reducible exact R3.p4a _ | with_reducible exact R5.p4f hne _ _ _ _)
          clear hK K hHeld
          have hHeld := hHeld2
          clear hHeld2
          try simp only [Act.put, List.setIfInBounds_toArray, List.set_cons_zero, List.set_cons_succ]
          refine wpAnyH_take (i := 6) (oi := _) (v := ?v5021) (List.getElem?_toArray.trans rfl) (by kernel_rfl) (by kernel_rfl) (by kernel_rfl) (fun _ _ _ h => h) (Or.inl ⟨by rfl, ?hy5021⟩) (by assumption) ?rest5021
          case hy5021 => (intro wq hSw; (try simp only [Two, P4] at hSw); go_simp; try with_reducible rfl)
          try simp only [Act.put, List.setIfInBounds_toArray, List.set_cons_zero, List.set_cons_succ]
          refine wpAnyH_take (i := 7) (oi := _) (v := ?v5022) (List.getElem?_toArray.trans rfl) (by kernel_rfl) (by kernel_rfl) (by kernel_rfl) (fun _ _ _ h => h) (Or.inl ⟨by rfl, ?hy5022⟩) (by assumption) ?rest5022
          case hy5022 => (intro wq hSw; (try simp only [Two, P4] at hSw); go_simp; try with_reducible rfl)
          try simp only [Act.put, List.setIfInBounds_toArray, List.set_cons_zero, List.set_cons_succ]
          refine wpAnyH_take (i := 8) (oi := _) (v := ?v5023) (List.getElem?_toArray.trans rfl) (by kernel_rfl) (by kernel_rfl) (by kernel_rfl) (fun _ _ _ h => h) (Or.inl ⟨by rfl, ?hy5023⟩) (by assumption) ?rest5023
          case hy5023 => (intro wq hSw; (try simp only [Two, P4] at hSw); go_simp; try with_reducible rfl)
          try simp only [Act.put, List.setIfInBounds_toArray, List.set_cons_zero, List.set_cons_succ]
          refine wpAnyH_ready (rs := [10]) (by kernel_rfl) (by simp) ?rdy5024
          refine (AllReadyH.cons (List.getElem?_toArray.trans rfl) (fun K hK => ?stp5024_10) AllReadyH.nil)
          case stp5024_10 =>
            go_simp
            go_wp2_with fail
            refine hK.out _ _ ?hSn5025 (fun hHeld2 => ?rest5025)
            case hSn5025 => (first | with_reducible exact S0.drew | with_reducible exact R5.p4 | with_reducible exact R4.p4 | with_reducible exact R5.p4a _ | with_reducible exact R4.p4a _ | with_reducible exact (R3.p4a _).drew | with_reducible exact R3.p4a _ | with_reducible exact R5.p4f hne _ _ _ _)
            clear hK K hHeld
            have hHeld := hHeld2
            clear hHeld2
            try simp only [Act.put, List.setIfInBounds_toArray, List.set_cons_zero, List.set_cons_succ]
            refine wpAnyH_take (i := 11) (oi := _) (v := ?v5026) (List.getElem?_toArray.trans rfl) (by kernel_rfl) (by kernel_rfl) (by kernel_rfl) (fun _ _ _ h => h) (Or.inl ⟨by rfl, ?hy5026⟩) (by assumption) ?rest5026
            case hy5026 => (intro wq hSw; (try simp only [Two, P4] at hSw); go_simp; try with_reducible rfl)
            try simp only [Act.put, List.setIfInBounds_toArray, List.set_cons_zero, List.set_cons_succ]
            refine wpAnyH_done (by kernel_rfl) ?_ _
            go_wp2_with fail
            go_meet
            case rel => exact ⟨_, rfl, rfl, (by first | exact hne | exact R5.2.2.1.lt), (by first | with_reducible exact Blk.new _ _ _ | with_reducible exact N5.put4 _ _ _ _), (by first | with_reducible exact R5.alloc _ | with_reducible exact R5.far4 hne _ _ _ _)⟩
    case stp5006_9 =>
      go_simp
      go_wp2_with fail
      refine hK.out _ _ ?hSn5027 (fun hHeld2 => ?rest5027)
      case hSn5027 => (first | with_reducible exact S0.drew | with_reducible exact R5.p4 | with_reducible exact R4.p4 | with_reducible exact R5.p4a _ | with_reducible exact R4.p4a _ | with_reducible exact (R3.p4a _).drew | with_reducible exact R3.p4a _ | with_reducible exact R5.p4f hne _ _ _ _)
      clear hK K hHeld
      have hHeld := hHeld2
      clear hHeld2
      try simp only [Act.put, List.setIfInBounds_toArray, List.set_cons_zero, List.set_cons_succ]
      refine wpAnyH_ready (rs := [1]) (by kernel_rfl) (by simp) ?rdy5028
      refine (AllReadyH.cons (List.getElem?_toArray.trans rfl) (fun K hK => ?stp5028_1) AllReadyH.nil)
      case stp5028_1 =>
        go_simp
        go_wp2_with fail
        (refine (CF.out _).mono ?_; rintro e w4 ⟨rfl, hb4⟩; first | (have R4 := R3.via hb4 rfl rfl rfl rfl) | (have R4 := (R3.alloc (.cells #[.bool false, .int .u64 0, .int .u64 0, .int .i64 0] 28)).via hb4 rfl rfl rfl rfl; have N4 : Blk w4 w3.heap.size #[.bool false, .int .u64 0, .int .u64 0, .int .i64 0] 28 := Blk.via hb4 (Blk.new w3 _ _) rfl))
        go_wp2_with fail
        refine hK.out _ _ ?hSn5029 (fun hHeld2 => ?rest5029)
        case hSn5029 => (first | with_reducible exact S0.drew | with_reducible exact R5.p4 | with_reducible exact R4.p4 | with_reducible exact R5.p4a _ | with_reducible exact R4.p4a _ | with_reducible exact (R3.p4a _).drew | with_reducible exact R3.p4a _ | with_reducible exact R5.p4f hne _ _ _ _)
        clear hK K hHeld
        have hHeld := hHeld2
        clear hHeld2
        try simp only [Act.put, List.setIfInBounds_toArray, List.set_cons_zero, List.set_cons_succ]
        refine wpAnyH_ready (rs := [5]) (by kernel_rfl) (by simp) ?rdy5030
        refine (AllReadyH.cons (List.getElem?_toArray.trans rfl) (fun K hK => ?stp5030_5) AllReadyH.nil)
        case stp5030_5 =>
          go_simp
          go_wp2_with fail
          (refine (O1.out _).mono ?_; rintro e w5 ⟨rfl, hb5⟩; first | (have N5 := N4.below hb5; have R5 := R4.below hb5; obtain ⟨p0, p1, p2, p3, p4, p5, p6, p7, p8⟩ := N5.four; have hne := R3.2.2.1.lt) | (have R5 := R4.via hb5 rfl rfl rfl rfl) | (have R5 := (R4.alloc (.cells #[.bool false, .int .u64 0, .int .u64 0, .int .i64 0] 28)).via hb5 rfl rfl rfl rfl; have N5 : Blk w5 w4.heap.size #[.bool false, .int .u64 0, .int .u64 0, .int .i64 0] 28 := Blk.via hb5 (Blk.new w4 _ _) rfl; obtain ⟨p0, p1, p2, p3, p4, p5, p6, p7, p8⟩ := N5.four; have hne := R4.2.2.1.lt))
          go_wp2_with fail
          refine hK.out _ _ ?hSn5031 (fun hHeld2 => ?rest5031)
          case hSn5031 => (first | with_reducible exact S0.drew | with_reducible exact R5.p4 | with_reducible exact R4.p4 | with_reducible exact R5.p4a _ | with_reducible exact R4.p4a _ | with_reducible exact (R3.p4a _).drew | with_reducible exact R3.p4a _ | with_reducible exact R5.p4f hne _ _ _ _)
          clear hK K hHeld
          have hHeld := hHeld2
          clear hHeld2
          try simp only [Act.put, List.setIfInBounds_toArray, List.set_cons_zero, List.set_cons_succ]
          refine wpAnyH_take (i := 6) (oi := _) (v := ?v5032) (List.getElem?_toArray.trans rfl) (by kernel_rfl) (by kernel_rfl) (by kernel_rfl) (fun _ _ _ h => h) (Or.inl ⟨by rfl, ?hy5032⟩) (by assumption) ?rest5032
          case hy5032 => (intro wq hSw; (try simp only [Two, P4] at hSw); go_simp; try with_reducible rfl)
          try simp only [Act.put, List.setIfInBounds_toArray, List.set_cons_zero, List.set_cons_succ]
          refine wpAnyH_take (i := 7) (oi := _) (v := ?v5033) (List.getElem?_toArray.trans rfl) (by kernel_rfl) (by kernel_rfl) (by kernel_rfl) (fun _ _ _ h => h) (Or.inl ⟨by rfl, ?hy5033⟩) (by assumption) ?rest5033
          case hy5033 => (intro wq hSw; (try simp only [Two, P4] at hSw); go_simp; try with_reducible rfl)
          try simp only [Act.put, List.setIfInBounds_toArray, List.set_cons_zero, List.set_cons_succ]
          refine wpAnyH_take (i := 8) (oi := _) (v := ?v5034) (List.getElem?_toArray.trans rfl) (by kernel_rfl) (by kernel_rfl) (by kernel_rfl) (fun _ _ _ h => h) (Or.inl ⟨by rfl, ?hy5034⟩) (by assumption) ?rest5034
          case hy5034 => (intro wq hSw; (try simp only [Two, P4] at hSw); go_simp; try with_reducible rfl)
          try simp only [Act.put, List.setIfInBounds_toArray, List.set_cons_zero, List.set_cons_succ]
          refine wpAnyH_ready (rs := [10]) (by kernel_rfl) (by simp) ?rdy5035
          refine (AllReadyH.cons (List.getElem?_toArray.trans rfl) (fun K hK => ?stp5035_10) AllReadyH.nil)
          case stp5035_10 =>
            go_simp
            go_wp2_with fail
            refine hK.out _ _ ?hSn5036 (fun hHeld2 => ?rest5036)
            case hSn5036 => (first | with_reducible exact S0.drew | with_reducible exact R5.p4 | with_reducible exact R4.p4 | with_reducible exact R5.p4a _ | with_reducible exact R4.p4a _ | with_reducible exact (R3.p4a _).drew | with_reducible exact R3.p4a _ | with_reducible exact R5.p4f hne _ _ _ _)
            clear hK K hHeld
            have hHeld := hHeld2
            clear hHeld2
            try simp only [Act.put, List.setIfInBounds_toArray, List.set_cons_zero, List.set_cons_succ]
            refine wpAnyH_take (i := 11) (oi := _) (v := ?v5037) (List.getElem?_toArray.trans rfl) (by kernel_rfl) (by kernel_rfl) (by kernel_rfl) (fun _ _ _ h => h) (Or.inl ⟨by rfl, ?hy5037⟩) (by assumption) ?rest5037
            case hy5037 => (intro wq hSw; (try simp only [Two, P4] at hSw); go_simp; try with_reducible rfl)
            try simp only [Act.put, List.setIfInBounds_toArray, List.set_cons_zero, List.set_cons_succ]
            refine wpAnyH_done (by kernel_rfl) ?_ _
            go_wp2_with fail
            go_meet
            case rel => exact ⟨_, rfl, rfl, (by first | exact hne | exact R5.2.2.1.lt), (by first | with_reducible exact Blk.new _ _ _ | with_reducible exact N5.put4 _ _ _ _), (by first | with_reducible exact R5.alloc _ | with_reducible exact R5.far4 hne _ _ _ _)⟩
  case rest =>
    obtain ⟨B, rfl, rfl, hBl, N, R5⟩ := hcut
    have RJ : J3 w v h l b B wc := ⟨R5, N⟩
    clear R5 N CF O1
    go_upto_region 6 with fail
    go_cut [7, 8] (fun p t wd => ∃ C : Nat, p = .pointer (some ⟨C, 0, none⟩) ∧ t = .int .i64 0 ∧ (w.heap.size + 2 < C ∧ B < C) ∧ Blk wd C #[.bool v, .int .u64 rh, .int .u64 rl, .int .i64 (b + 1)] 28 ∧ J3 w v h l b B wd)
    case first =>
      have S1 : P4 w.heap.size v h l b wc := RJ.p4
      refine wp_region_held_drew (S := (P4 w.heap.size v h l b)) (by kernel_rfl) ?hS5038 (fun hHeld => ?rest5038)
      case hS5038 => (first | with_reducible exact S1.drew | with_reducible exact R9.p4 | with_reducible exact R8.p4 | with_reducible exact R9.p4a _ | with_reducible exact R8.p4a _ | with_reducible exact (RJ.p4a _).drew | with_reducible exact RJ.p4a _ | with_reducible exact R9.p4f hne _ _ _ _)
      refine wpAnyH_take (i := 0) (oi := _) (v := ?v5039) (List.getElem?_toArray.trans rfl) (by kernel_rfl) (by kernel_rfl) (by kernel_rfl) (fun _ _ _ h => h) (Or.inl ⟨by rfl, ?hy5039⟩) (by assumption) ?rest5039
      case hy5039 => (intro wq hSw; (try simp only [Two, P4] at hSw); go_simp; try with_reducible rfl)
      try simp only [Act.put, List.setIfInBounds_toArray, List.set_cons_zero, List.set_cons_succ]
      refine wpAnyH_take (i := 2) (oi := _) (v := ?v5040) (List.getElem?_toArray.trans rfl) (by kernel_rfl) (by kernel_rfl) (by kernel_rfl) (fun _ _ _ h => h) (Or.inl ⟨by rfl, ?hy5040⟩) (by assumption) ?rest5040
      case hy5040 => (intro wq hSw; (try simp only [Two, P4] at hSw); go_simp; try with_reducible rfl)
      try simp only [Act.put, List.setIfInBounds_toArray, List.set_cons_zero, List.set_cons_succ]
      refine wpAnyH_take (i := 3) (oi := _) (v := ?v5041) (List.getElem?_toArray.trans rfl) (by kernel_rfl) (by kernel_rfl) (by kernel_rfl) (fun _ _ _ h => h) (Or.inl ⟨by rfl, ?hy5041⟩) (by assumption) ?rest5041
      case hy5041 => (intro wq hSw; (try simp only [Two, P4] at hSw); go_simp; try with_reducible rfl)
      try simp only [Act.put, List.setIfInBounds_toArray, List.set_cons_zero, List.set_cons_succ]
      refine wpAnyH_take (i := 4) (oi := _) (v := ?v5042) (List.getElem?_toArray.trans rfl) (by kernel_rfl) (by kernel_rfl) (by kernel_rfl) (fun _ _ _ h => h) (Or.inl ⟨by rfl, ?hy5042⟩) (by assumption) ?rest5042
      case hy5042 => (intro wq hSw; (try simp only [Two, P4] at hSw); go_simp; try with_reducible rfl)
      try simp only [Act.put, List.setIfInBounds_toArray, List.set_cons_zero, List.set_cons_succ]
      refine wpAnyH_ready (rs := [1, 9]) (by kernel_rfl) (by simp) ?rdy5043
      refine (AllReadyH.cons (List.getElem?_toArray.trans rfl) (fun K hK => ?stp5043_1) (AllReadyH.cons (List.getElem?_toArray.trans rfl) (fun K hK => ?stp5043_9) AllReadyH.nil))
      case stp5043_1 =>
        go_simp
        go_wp2_with fail
        (refine (CL.out _).mono ?_; rintro e w8 ⟨rfl, hb8⟩; first | (have R8 := RJ.via hb8 rfl rfl rfl rfl) | (have R8 := (RJ.alloc (.cells #[.bool false, .int .u64 0, .int .u64 0, .int .i64 0] 28)).via hb8 rfl rfl rfl rfl; have N8 : Blk w8 wc.heap.size #[.bool false, .int .u64 0, .int .u64 0, .int .i64 0] 28 := Blk.via hb8 (Blk.new wc _ _) rfl))
        go_wp2_with fail
        refine hK.out _ _ ?hSn5044 (fun hHeld2 => ?rest5044)
        case hSn5044 => (first | with_reducible exact S1.drew | with_reducible exact R9.p4 | with_reducible exact R8.p4 | with_reducible exact R9.p4a _ | with_reducible exact R8.p4a _ | with_reducible exact (RJ.p4a _).drew | with_reducible exact RJ.p4a _ | with_reducible exact R9.p4f hne _ _ _ _)
        clear hK K hHeld
        have hHeld := hHeld2
        clear hHeld2
        try simp only [Act.put, List.setIfInBounds_toArray, List.set_cons_zero, List.set_cons_succ]
        refine wpAnyH_ready (rs := [5, 9]) (by kernel_rfl) (by simp) ?rdy5045
        refine (AllReadyH.cons (List.getElem?_toArray.trans rfl) (fun K hK => ?stp5045_5) (AllReadyH.cons (List.getElem?_toArray.trans rfl) (fun K hK => ?stp5045_9) AllReadyH.nil))
        case stp5045_5 =>
          go_simp
          go_wp2_with fail
          (refine (O2.out _).mono ?_; rintro e w9 ⟨rfl, hb9⟩; first | (have N9 := N8.below hb9; have R9 := R8.below hb9; obtain ⟨p0, p1, p2, p3, p4, p5, p6, p7, p8⟩ := N9.four; have hne := RJ.lt) | (have R9 := R8.via hb9 rfl rfl rfl rfl) | (have R9 := (R8.alloc (.cells #[.bool false, .int .u64 0, .int .u64 0, .int .i64 0] 28)).via hb9 rfl rfl rfl rfl; have N9 : Blk w9 w8.heap.size #[.bool false, .int .u64 0, .int .u64 0, .int .i64 0] 28 := Blk.via hb9 (Blk.new w8 _ _) rfl; obtain ⟨p0, p1, p2, p3, p4, p5, p6, p7, p8⟩ := N9.four; have hne := R8.lt))
          go_wp2_with fail
          refine hK.out _ _ ?hSn5046 (fun hHeld2 => ?rest5046)
          case hSn5046 => (first | with_reducible exact S1.drew | with_reducible exact R9.p4 | with_reducible exact R8.p4 | with_reducible exact R9.p4a _ | with_reducible exact R8.p4a _ | with_reducible exact (RJ.p4a _).drew | with_reducible exact RJ.p4a _ | with_reducible exact R9.p4f hne _ _ _ _)
          clear hK K hHeld
          have hHeld := hHeld2
          clear hHeld2
          try simp only [Act.put, List.setIfInBounds_toArray, List.set_cons_zero, List.set_cons_succ]
          refine wpAnyH_take (i := 6) (oi := _) (v := ?v5047) (List.getElem?_toArray.trans rfl) (by kernel_rfl) (by kernel_rfl) (by kernel_rfl) (fun _ _ _ h => h) (Or.inl ⟨by rfl, ?hy5047⟩) (by assumption) ?rest5047
          case hy5047 => (intro wq hSw; (try simp only [Two, P4] at hSw); go_simp; try with_reducible rfl)
          try simp only [Act.put, List.setIfInBounds_toArray, List.set_cons_zero, List.set_cons_succ]
          refine wpAnyH_take (i := 7) (oi := _) (v := ?v5048) (List.getElem?_toArray.trans rfl) (by kernel_rfl) (by kernel_rfl) (by kernel_rfl) (fun _ _ _ h => h) (Or.inl ⟨by rfl, ?hy5048⟩) (by assumption) ?rest5048
          case hy5048 => (intro wq hSw; (try simp only [Two, P4] at hSw); go_simp; try with_reducible rfl)
          try simp only [Act.put, List.setIfInBounds_toArray, List.set_cons_zero, List.set_cons_succ]
          refine wpAnyH_take (i := 8) (oi := _) (v := ?v5049) (List.getElem?_toArray.trans rfl) (by kernel_rfl) (by kernel_rfl) (by kernel_rfl) (fun _ _ _ h => h) (Or.inl ⟨by rfl, ?hy5049⟩) (by assumption) ?rest5049
          case hy5049 => (intro wq hSw; (try simp only [Two, P4] at hSw); go_simp; try with_reducible rfl)
          try simp only [Act.put, List.setIfInBounds_toArray, List.set_cons_zero, List.set_cons_succ]
          refine wpAnyH_ready (rs := [9]) (by kernel_rfl) (by simp) ?rdy5050
          refine (AllReadyH.cons (List.getElem?_toArray.trans rfl) (fun K hK => ?stp5050_9) AllReadyH.nil)
          case stp5050_9 =>
            go_simp
            go_wp2_with fail
            refine hK.out _ _ ?hSn5051 (fun hHeld2 => ?rest5051)
            case hSn5051 => (first | with_reducible exact S1.drew | with_reducible exact R9.p4 | with_reducible exact R8.p4 | with_reducible exact R9.p4a _ | with_reducible exact R8.p4a _ | with_reducible exact (RJ.p4a _).drew | with_reducible exact RJ.p4a _ | with_reducible exact R9.p4f hne _ _ _ _)
            clear hK K hHeld
            have hHeld := hHeld2
            clear hHeld2
            try simp only [Act.put, List.setIfInBounds_toArray, List.set_cons_zero, List.set_cons_succ]
            refine wpAnyH_ready (rs := [10]) (by kernel_rfl) (by simp) ?rdy5052
            refine (AllReadyH.cons (List.getElem?_toArray.trans rfl) (fun K hK => ?stp5052_10) AllReadyH.nil)
            case stp5052_10 =>
              go_simp
              go_wp2_with fail
              refine hK.out _ _ ?hSn5053 (fun hHeld2 => ?rest5053)
              case hSn5053 => (first | with_reducible exact S1.drew | with_reducible exact R9.p4 | with_reducible exact R8.p4 | with_reducible exact R9.p4a _ | with_reducible exact R8.p4a _ | with_reducible exact (RJ.p4a _).drew | with_reducible exact RJ.p4a _ | with_reducible exact R9.p4f hne _ _ _ _)
              clear hK K hHeld
              have hHeld := hHeld2
              clear hHeld2
              try simp only [Act.put, List.setIfInBounds_toArray, List.set_cons_zero, List.set_cons_succ]
              refine wpAnyH_take (i := 11) (oi := _) (v := ?v5054) (List.getElem?_toArray.trans rfl) (by kernel_rfl) (by kernel_rfl) (by kernel_rfl) (fun _ _ _ h => h) (Or.inl ⟨by rfl, ?hy5054⟩) (by assumption) ?rest5054
              case hy5054 => (intro wq hSw; (try simp only [Two, P4] at hSw); go_simp; try with_reducible rfl)
              try simp only [Act.put, List.setIfInBounds_toArray, List.set_cons_zero, List.set_cons_succ]
              refine wpAnyH_done (by kernel_rfl) ?_ _
              go_wp2_with fail
              go_meet
              case rel => exact ⟨_, rfl, rfl, (by first | exact hne | exact R9.lt), (by first | with_reducible exact Blk.new _ _ _ | with_reducible exact N9.put4 _ _ _ _), (by first | with_reducible exact R9.alloc _ | with_reducible exact R9.far4 hne _ _ _ _)⟩
        case stp5045_9 =>
          go_simp
          go_wp2_with fail
          refine hK.out _ _ ?hSn5055 (fun hHeld2 => ?rest5055)
          case hSn5055 => (first | with_reducible exact S1.drew | with_reducible exact R9.p4 | with_reducible exact R8.p4 | with_reducible exact R9.p4a _ | with_reducible exact R8.p4a _ | with_reducible exact (RJ.p4a _).drew | with_reducible exact RJ.p4a _ | with_reducible exact R9.p4f hne _ _ _ _)
          clear hK K hHeld
          have hHeld := hHeld2
          clear hHeld2
          try simp only [Act.put, List.setIfInBounds_toArray, List.set_cons_zero, List.set_cons_succ]
          refine wpAnyH_ready (rs := [5]) (by kernel_rfl) (by simp) ?rdy5056
          refine (AllReadyH.cons (List.getElem?_toArray.trans rfl) (fun K hK => ?stp5056_5) AllReadyH.nil)
          case stp5056_5 =>
            go_simp
            go_wp2_with fail
            (refine (O2.out _).mono ?_; rintro e w9 ⟨rfl, hb9⟩; first | (have N9 := N8.below hb9; have R9 := R8.below hb9; obtain ⟨p0, p1, p2, p3, p4, p5, p6, p7, p8⟩ := N9.four; have hne := RJ.lt) | (have R9 := R8.via hb9 rfl rfl rfl rfl) | (have R9 := (R8.alloc (.cells #[.bool false, .int .u64 0, .int .u64 0, .int .i64 0] 28)).via hb9 rfl rfl rfl rfl; have N9 : Blk w9 w8.heap.size #[.bool false, .int .u64 0, .int .u64 0, .int .i64 0] 28 := Blk.via hb9 (Blk.new w8 _ _) rfl; obtain ⟨p0, p1, p2, p3, p4, p5, p6, p7, p8⟩ := N9.four; have hne := R8.lt))
            go_wp2_with fail
            refine hK.out _ _ ?hSn5057 (fun hHeld2 => ?rest5057)
            case hSn5057 => (first | with_reducible exact S1.drew | with_reducible exact R9.p4 | with_reducible exact R8.p4 | with_reducible exact R9.p4a _ | with_reducible exact R8.p4a _ | with_reducible exact (RJ.p4a _).drew | with_reducible exact RJ.p4a _ | with_reducible exact R9.p4f hne _ _ _ _)
            clear hK K hHeld
            have hHeld := hHeld2
            clear hHeld2
            try simp only [Act.put, List.setIfInBounds_toArray, List.set_cons_zero, List.set_cons_succ]
            refine wpAnyH_take (i := 6) (oi := _) (v := ?v5058) (List.getElem?_toArray.trans rfl) (by kernel_rfl) (by kernel_rfl) (by kernel_rfl) (fun _ _ _ h => h) (Or.inl ⟨by rfl, ?hy5058⟩) (by assumption) ?rest5058
            case hy5058 => (intro wq hSw; (try simp only [Two, P4] at hSw); go_simp; try with_reducible rfl)
            try simp only [Act.put, List.setIfInBounds_toArray, List.set_cons_zero, List.set_cons_succ]
            refine wpAnyH_take (i := 7) (oi := _) (v := ?v5059) (List.getElem?_toArray.trans rfl) (by kernel_rfl) (by kernel_rfl) (by kernel_rfl) (fun _ _ _ h => h) (Or.inl ⟨by rfl, ?hy5059⟩) (by assumption) ?rest5059
            case hy5059 => (intro wq hSw; (try simp only [Two, P4] at hSw); go_simp; try with_reducible rfl)
            try simp only [Act.put, List.setIfInBounds_toArray, List.set_cons_zero, List.set_cons_succ]
            refine wpAnyH_take (i := 8) (oi := _) (v := ?v5060) (List.getElem?_toArray.trans rfl) (by kernel_rfl) (by kernel_rfl) (by kernel_rfl) (fun _ _ _ h => h) (Or.inl ⟨by rfl, ?hy5060⟩) (by assumption) ?rest5060
            case hy5060 => (intro wq hSw; (try simp only [Two, P4] at hSw); go_simp; try with_reducible rfl)
            try simp only [Act.put, List.setIfInBounds_toArray, List.set_cons_zero, List.set_cons_succ]
            refine wpAnyH_ready (rs := [10]) (by kernel_rfl) (by simp) ?rdy5061
            refine (AllReadyH.cons (List.getElem?_toArray.trans rfl) (fun K hK => ?stp5061_10) AllReadyH.nil)
            case stp5061_10 =>
              go_simp
              go_wp2_with fail
              refine hK.out _ _ ?hSn5062 (fun hHeld2 => ?rest5062)
              case hSn5062 => (first | with_reducible exact S1.drew | with_reducible exact R9.p4 | with_reducible exact R8.p4 | with_reducible exact R9.p4a _ | with_reducible exact R8.p4a _ | with_reducible exact (RJ.p4a _).drew | with_reducible exact RJ.p4a _ | with_reducible exact R9.p4f hne _ _ _ _)
              clear hK K hHeld
              have hHeld := hHeld2
              clear hHeld2
              try simp only [Act.put, List.setIfInBounds_toArray, List.set_cons_zero, List.set_cons_succ]
              refine wpAnyH_take (i := 11) (oi := _) (v := ?v5063) (List.getElem?_toArray.trans rfl) (by kernel_rfl) (by kernel_rfl) (by kernel_rfl) (fun _ _ _ h => h) (Or.inl ⟨by rfl, ?hy5063⟩) (by assumption) ?rest5063
              case hy5063 => (intro wq hSw; (try simp only [Two, P4] at hSw); go_simp; try with_reducible rfl)
              try simp only [Act.put, List.setIfInBounds_toArray, List.set_cons_zero, List.set_cons_succ]
              refine wpAnyH_done (by kernel_rfl) ?_ _
              go_wp2_with fail
              go_meet
              case rel => exact ⟨_, rfl, rfl, (by first | exact hne | exact R9.lt), (by first | with_reducible exact Blk.new _ _ _ | with_reducible exact N9.put4 _ _ _ _), (by first | with_reducible exact R9.alloc _ | with_reducible exact R9.far4 hne _ _ _ _)⟩
      case stp5043_9 =>
        go_simp
        go_wp2_with fail
        refine hK.out _ _ ?hSn5064 (fun hHeld2 => ?rest5064)
        case hSn5064 => (first | with_reducible exact S1.drew | with_reducible exact R9.p4 | with_reducible exact R8.p4 | with_reducible exact R9.p4a _ | with_reducible exact R8.p4a _ | with_reducible exact (RJ.p4a _).drew | with_reducible exact RJ.p4a _ | with_reducible exact R9.p4f hne _ _ _ _)
        clear hK K hHeld
        have hHeld := hHeld2
        clear hHeld2
        try simp only [Act.put, List.setIfInBounds_toArray, List.set_cons_zero, List.set_cons_succ]
        refine wpAnyH_ready (rs := [1]) (by kernel_rfl) (by simp) ?rdy5065
        refine (AllReadyH.cons (List.getElem?_toArray.trans rfl) (fun K hK => ?stp5065_1) AllReadyH.nil)
        case stp5065_1 =>
          go_simp
          go_wp2_with fail
          (refine (CL.out _).mono ?_; rintro e w8 ⟨rfl, hb8⟩; first | (have R8 := RJ.via hb8 rfl rfl rfl rfl) | (have R8 := (RJ.alloc (.cells #[.bool false, .int .u64 0, .int .u64 0, .int .i64 0] 28)).via hb8 rfl rfl rfl rfl; have N8 : Blk w8 wc.heap.size #[.bool false, .int .u64 0, .int .u64 0, .int .i64 0] 28 := Blk.via hb8 (Blk.new wc _ _) rfl))
          go_wp2_with fail
          refine hK.out _ _ ?hSn5066 (fun hHeld2 => ?rest5066)
          case hSn5066 => (first | with_reducible exact S1.drew | with_reducible exact R9.p4 | with_reducible exact R8.p4 | with_reducible exact R9.p4a _ | with_reducible exact R8.p4a _ | with_reducible exact (RJ.p4a _).drew | with_reducible exact RJ.p4a _ | with_reducible exact R9.p4f hne _ _ _ _)
          clear hK K hHeld
          have hHeld := hHeld2
          clear hHeld2
          try simp only [Act.put, List.setIfInBounds_toArray, List.set_cons_zero, List.set_cons_succ]
          refine wpAnyH_ready (rs := [5]) (by kernel_rfl) (by simp) ?rdy5067
          refine (AllReadyH.cons (List.getElem?_toArray.trans rfl) (fun K hK => ?stp5067_5) AllReadyH.nil)
          case stp5067_5 =>
            go_simp
            go_wp2_with fail
            (refine (O2.out _).mono ?_; rintro e w9 ⟨rfl, hb9⟩; first | (have N9 := N8.below hb9; have R9 := R8.below hb9; obtain ⟨p0, p1, p2, p3, p4, p5, p6, p7, p8⟩ := N9.four; have hne := RJ.lt) | (have R9 := R8.via hb9 rfl rfl rfl rfl) | (have R9 := (R8.alloc (.cells #[.bool false, .int .u64 0, .int .u64 0, .int .i64 0] 28)).via hb9 rfl rfl rfl rfl; have N9 : Blk w9 w8.heap.size #[.bool false, .int .u64 0, .int .u64 0, .int .i64 0] 28 := Blk.via hb9 (Blk.new w8 _ _) rfl; obtain ⟨p0, p1, p2, p3, p4, p5, p6, p7, p8⟩ := N9.four; have hne := R8.lt))
            go_wp2_with fail
            refine hK.out _ _ ?hSn5068 (fun hHeld2 => ?rest5068)
            case hSn5068 => (first | with_reducible exact S1.drew | with_reducible exact R9.p4 | with_reducible exact R8.p4 | with_reducible exact R9.p4a _ | with_reducible exact R8.p4a _ | with_reducible exact (RJ.p4a _).drew | with_reducible exact RJ.p4a _ | with_reducible exact R9.p4f hne _ _ _ _)
            clear hK K hHeld
            have hHeld := hHeld2
            clear hHeld2
            try simp only [Act.put, List.setIfInBounds_toArray, List.set_cons_zero, List.set_cons_succ]
            refine wpAnyH_take (i := 6) (oi := _) (v := ?v5069) (List.getElem?_toArray.trans rfl) (by kernel_rfl) (by kernel_rfl) (by kernel_rfl) (fun _ _ _ h => h) (Or.inl ⟨by rfl, ?hy5069⟩) (by assumption) ?rest5069
            case hy5069 => (intro wq hSw; (try simp only [Two, P4] at hSw); go_simp; try with_reducible rfl)
            try simp only [Act.put, List.setIfInBounds_toArray, List.set_cons_zero, List.set_cons_succ]
            refine wpAnyH_take (i := 7) (oi := _) (v := ?v5070) (List.getElem?_toArray.trans rfl) (by kernel_rfl) (by kernel_rfl) (by kernel_rfl) (fun _ _ _ h => h) (Or.inl ⟨by rfl, ?hy5070⟩) (by assumption) ?rest5070
            case hy5070 => (intro wq hSw; (try simp only [Two, P4] at hSw); go_simp; try with_reducible rfl)
            try simp only [Act.put, List.setIfInBounds_toArray, List.set_cons_zero, List.set_cons_succ]
            refine wpAnyH_take (i := 8) (oi := _) (v := ?v5071) (List.getElem?_toArray.trans rfl) (by kernel_rfl) (by kernel_rfl) (by kernel_rfl) (fun _ _ _ h => h) (Or.inl ⟨by rfl, ?hy5071⟩) (by assumption) ?rest5071
            case hy5071 => (intro wq hSw; (try simp only [Two, P4] at hSw); go_simp; try with_reducible rfl)
            try simp only [Act.put, List.setIfInBounds_toArray, List.set_cons_zero, List.set_cons_succ]
            refine wpAnyH_ready (rs := [10]) (by kernel_rfl) (by simp) ?rdy5072
            refine (AllReadyH.cons (List.getElem?_toArray.trans rfl) (fun K hK => ?stp5072_10) AllReadyH.nil)
            case stp5072_10 =>
              go_simp
              go_wp2_with fail
              refine hK.out _ _ ?hSn5073 (fun hHeld2 => ?rest5073)
              case hSn5073 => (first | with_reducible exact S1.drew | with_reducible exact R9.p4 | with_reducible exact R8.p4 | with_reducible exact R9.p4a _ | with_reducible exact R8.p4a _ | with_reducible exact (RJ.p4a _).drew | with_reducible exact RJ.p4a _ | with_reducible exact R9.p4f hne _ _ _ _)
              clear hK K hHeld
              have hHeld := hHeld2
              clear hHeld2
              try simp only [Act.put, List.setIfInBounds_toArray, List.set_cons_zero, List.set_cons_succ]
              refine wpAnyH_take (i := 11) (oi := _) (v := ?v5074) (List.getElem?_toArray.trans rfl) (by kernel_rfl) (by kernel_rfl) (by kernel_rfl) (fun _ _ _ h => h) (Or.inl ⟨by rfl, ?hy5074⟩) (by assumption) ?rest5074
              case hy5074 => (intro wq hSw; (try simp only [Two, P4] at hSw); go_simp; try with_reducible rfl)
              try simp only [Act.put, List.setIfInBounds_toArray, List.set_cons_zero, List.set_cons_succ]
              refine wpAnyH_done (by kernel_rfl) ?_ _
              go_wp2_with fail
              go_meet
              case rel => exact ⟨_, rfl, rfl, (by first | exact hne | exact R9.lt), (by first | with_reducible exact Blk.new _ _ _ | with_reducible exact N9.put4 _ _ _ _), (by first | with_reducible exact R9.alloc _ | with_reducible exact R9.far4 hne _ _ _ _)⟩
    case rest =>
      obtain ⟨C, rfl, rfl, hCl, N, R9⟩ := hcut
      have S2 : PP B C v h l (b + 1) v rh rl (b + 1) wc := PP.of R9.2 N
      obtain ⟨r0, r1, r2, r3, r4, r5, r6, r7, r8⟩ := R9.1.2.1.four
      obtain ⟨q0, q1, q2, q3, q4, q5, q6, q7, q8⟩ := R9.1.2.2.1.four
      have B9 := R9.1.2.2.2
      have ne1 : B ≠ w.heap.size + 1 := by omega
      have ne2 : C ≠ w.heap.size + 1 := by omega
      have ne3 : B ≠ w.heap.size + 1 + 1 := by omega
      have ne4 : C ≠ w.heap.size + 1 + 1 := by omega
      clear RJ R1 R3 CL O2 C1 hb3
      go_upto_region 7 with fail
      refine wp_region_held_drew (S := (PP B C v h l (b + 1) v rh rl (b + 1))) (by kernel_rfl) ?hS5075 (fun hHeld => ?rest5075)
      case hS5075 => (first | with_reducible exact S2.drew | with_reducible exact (S2.far4 ne1 ne2 _ _ _ _).drew | with_reducible exact ((S2.far4 ne1 ne2 _ _ _ _).far4 ne3 ne4 _ _ _ _).drew)
      refine wpAnyH_take (i := 0) (oi := _) (v := ?v5076) (List.getElem?_toArray.trans rfl) (by kernel_rfl) (by kernel_rfl) (by kernel_rfl) (fun _ _ _ h => h) (Or.inl ⟨by rfl, ?hy5076⟩) (by assumption) ?rest5076
      case hy5076 => (intro wq hSw; (try simp only [Two, PP] at hSw); go_simp; try with_reducible rfl)
      try simp only [Act.put, List.setIfInBounds_toArray, List.set_cons_zero, List.set_cons_succ]
      refine wpAnyH_take (i := 1) (oi := _) (v := ?v5077) (List.getElem?_toArray.trans rfl) (by kernel_rfl) (by kernel_rfl) (by kernel_rfl) (fun _ _ _ h => h) (Or.inl ⟨by rfl, ?hy5077⟩) (by assumption) ?rest5077
      case hy5077 => (intro wq hSw; (try simp only [Two, PP] at hSw); go_simp; try with_reducible rfl)
      try simp only [Act.put, List.setIfInBounds_toArray, List.set_cons_zero, List.set_cons_succ]
      refine wpAnyH_ready (rs := [2]) (by kernel_rfl) (by simp) ?rdy5078
      refine (AllReadyH.cons (List.getElem?_toArray.trans rfl) (fun K hK => ?stp5078_2) AllReadyH.nil)
      case stp5078_2 =>
        go_simp
        go_wp2_with fail
        refine hK.out _ _ ?hSn5079 (fun hHeld2 => ?rest5079)
        case hSn5079 => (first | with_reducible exact S2.drew | with_reducible exact (S2.far4 ne1 ne2 _ _ _ _).drew | with_reducible exact ((S2.far4 ne1 ne2 _ _ _ _).far4 ne3 ne4 _ _ _ _).drew)
        clear hK K hHeld
        have hHeld := hHeld2
        clear hHeld2
        try simp only [Act.put, List.setIfInBounds_toArray, List.set_cons_zero, List.set_cons_succ]
        refine wpAnyH_ready (rs := [3]) (by kernel_rfl) (by simp) ?rdy5080
        refine (AllReadyH.cons (List.getElem?_toArray.trans rfl) (fun K hK => ?stp5080_3) AllReadyH.nil)
        case stp5080_3 =>
          go_simp
          go_wp2_with fail
          refine hK.out _ _ ?hSn5081 (fun hHeld2 => ?rest5081)
          case hSn5081 => (first | with_reducible exact S2.drew | with_reducible exact (S2.far4 ne1 ne2 _ _ _ _).drew | with_reducible exact ((S2.far4 ne1 ne2 _ _ _ _).far4 ne3 ne4 _ _ _ _).drew)
          clear hK K hHeld
          have hHeld := hHeld2
          clear hHeld2
          try simp only [Act.put, List.setIfInBounds_toArray, List.set_cons_zero, List.set_cons_succ]
          refine wpAnyH_take (i := 4) (oi := _) (v := ?v5082) (List.getElem?_toArray.trans rfl) (by kernel_rfl) (by kernel_rfl) (by kernel_rfl) (fun _ _ _ h => h) (Or.inl ⟨by rfl, ?hy5082⟩) (by assumption) ?rest5082
          case hy5082 => (intro wq hSw; (try simp only [Two, PP] at hSw); go_simp; try with_reducible rfl)
          try simp only [Act.put, List.setIfInBounds_toArray, List.set_cons_zero, List.set_cons_succ]
          refine wpAnyH_done (by kernel_rfl) ?_ _
          go_wp2
          refine bodyPost_ret (v := .tuple #[pv v h l (b + 1), pv v rh rl (b + 1), .int .i64 0]) (by simp [results, Tryz.results10, go_sem, World.cell?_setCell_same', World.cell?_setCell_other, *]) rfl ⟨rfl, by repeat (first | with_reducible exact Below.refl _ _ | with_reducible refine Below.drew ?_ | with_reducible refine Below.alloc ?_ (by first | omega | (simp <;> omega)) _ | with_reducible refine Below.setCell ?_ (by first | omega | (simp <;> omega)) _ | with_reducible refine Below.trans ?_ (Below.mono B9 (by first | omega | (simp <;> omega))))⟩
end Go.Proofs.YtipjmmhlfmahbaaGreatDoor

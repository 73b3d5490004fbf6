/-
  What Of, First, Last, Has, Within and Overlap of package prefix return, for every prefix.
-/
import Derived.Test.YtmhnfgfdggjdhaaGreatDoorPfx1
namespace Go.Proofs.YtmhnfgfdggjdhaaGreatDoor
open Go.ChangeShapes Go.WideShapes Go.ChangeAt Go.RowKit
set_option linter.unusedVariables false
set_option linter.unusedSimpArgs false

/-- An address's block that is read. -/
def Q3 (B : Nat) (v : Bool) (h l : Int) (wx : World) : Prop :=
  (wx.cell? ⟨B, 0, none⟩ = some (.bool v) ∧ wx.cell? ⟨B, 1, none⟩ = some (.int .u64 h) ∧ wx.cell? ⟨B, 2, none⟩ = some (.int .u64 l)) ∧ Blk wx B #[.bool v, .int .u64 h, .int .u64 l] 26

theorem Q3.of {B : Nat} {v : Bool} {h l : Int} {wx : World} (a : Blk wx B #[.bool v, .int .u64 h, .int .u64 l] 26) : Q3 B v h l wx := ⟨⟨a.cell 0, a.cell 1, a.cell 2⟩, a⟩

theorem Q3.drew {B : Nat} {v : Bool} {h l : Int} {wx : World} (s : Q3 B v h l wx) : Q3 B v h l wx.drew := s

theorem Q3.below {B : Nat} {v : Bool} {h l : Int} {wx w1 : World} (s : Q3 B v h l wx) (hb : Below wx.heap.size wx w1) : Q3 B v h l w1 := Q3.of (s.2.below hb)

theorem Q3.far {B C : Nat} {v : Bool} {h l : Int} {wx : World} (s : Q3 B v h l wx) (hne : B ≠ C) (i j : Nat) (x y : Value) : Q3 B v h l ((wx.setCell ⟨C, i, none⟩ x).setCell ⟨C, j, none⟩ y) := Q3.of ((s.2.far hne _ _).far hne _ _)

set_option maxRecDepth 100000 in
set_option maxHeartbeats 800000 in
theorem of_no {v : Bool} {h l b : Int} {a : Nat} (ha : IsNum h l a) (hf : fitsB v a b = false) (w : World) :
    Calls Tryz.prog 48 #[av v h l, .int .i64 b] w fun e w' => e = .returned (.tuple #[pv false 0 0 0, .int .i64 1]) ∧ Below w.heap.size w w' := by
  have C1 := fun w' => fits_c (v := v) (b := b) ha w'
  rw [hf] at C1
  clear ha hf
  go_enter Tryz.func48, Tryz.ntmps48
  go_wp2_with fail
  refine (C1 _).mono ?_
  rintro e w1 ⟨rfl, hb1⟩
  obtain ⟨hc1, hf1⟩ := bcell hb1
  have hz_w1_0 : w.heap.size < w1.heap.size   := (by have := hb1.size; first | omega | (simp at this; omega))
  have hz_w1_1 : w.heap.size + 1 < w1.heap.size   := (by have := hb1.size; first | omega | (simp at this; omega))
  clear C1
  go_wp2
  refine bodyPost_ret (v := .tuple #[pv false 0 0 0, .int .i64 1]) (by simp [results, Tryz.results48, go_sem, World.cell?_setCell_same', World.cell?_setCell_other, *]) rfl ⟨rfl, by repeat (first | with_reducible exact Below.refl _ _ | with_reducible refine Below.drew ?_ | with_reducible refine Below.alloc ?_ (by first | omega | (simp <;> omega)) _ | with_reducible refine Below.setCell ?_ (by first | omega | (simp <;> omega)) _ | with_reducible refine Below.trans ?_ (Below.mono hb1 (by first | omega | (simp <;> omega))))⟩

set_option maxRecDepth 100000 in
set_option maxHeartbeats 1600000 in
theorem of_ok {v : Bool} {h l b rh rl : Int} {a : Nat} (ha : IsNum h l a) (hf : fitsB v a b = true) (hr : IsNum rh rl (ofN v a b)) (w : World) :
    Calls Tryz.prog 48 #[av v h l, .int .i64 b] w fun e w' => e = .returned (.tuple #[pv v rh rl b, .int .i64 0]) ∧ Below w.heap.size w w' := by
  obtain ⟨_, h0, h1⟩ := fitsB_parts hf
  have hk := behindP_le (v := v) h0
  obtain ⟨oh, ol, ho⟩ := IsNum.ex (ones_lt hk)
  obtain ⟨th, tl, ht⟩ := IsNum.ex (n := 340282366920938463463374607431768211455 - (2 ^ behindP v b - 1)) (by omega)
  have C1 : Hid (∀ w', Calls Tryz.prog 87 #[av v h l, .int .i64 b] w' fun e w1 => e = .returned (.bool true) ∧ Below w'.heap.size w' w1) := fun w' => hf ▸ fits_c ha w'
  have C2 : Hid (∀ w', Calls Tryz.prog 55 #[pv v h l b] w' fun e w1 => e = .returned (nv oh ol) ∧ Below w'.heap.size w' w1) := fun w' => rest_is h0 h1 ho w'
  have C3 : Hid (∀ w', Calls Tryz.prog 89 #[nv oh ol] w' fun e w1 => e = .returned (nv th tl) ∧ Below w'.heap.size w' w1) := fun w' => not_is ho ht w'
  have C4 : Hid (∀ w', Calls Tryz.prog 88 #[nv h l, nv th tl] w' fun e w1 => e = .returned (nv rh rl) ∧ Below w'.heap.size w' w1) := fun w' => and_is ha ht (hr.cast (and_noughts ha.lt hk).symm) w'
  clear ha hf hr ho ht hk h0 h1
  go_enter Tryz.func48, Tryz.ntmps48
  go_wp2_with fail
  refine (C1.out _).mono ?_
  rintro e w1 ⟨rfl, hb1⟩
  have A1 : Blk w1 w.heap.size #[.bool v, .int .u64 h, .int .u64 l] 26 := ((Blk.new _ _ _).alloc _).below hb1
  have R1 : Blk w1 (w.heap.size + 1) #[.bool false, .int .u64 0, .int .u64 0, .int .i64 0] 28 := Blk.below (by simpa using Blk.new (w.alloc (.cells #[.bool v, .int .u64 h, .int .u64 l] 26)) #[.bool false, .int .u64 0, .int .u64 0, .int .i64 0] 28) hb1
  have B1 : Below w.heap.size w w1 := by repeat (first | with_reducible exact Below.refl _ _ | with_reducible refine Below.drew ?_ | with_reducible refine Below.alloc ?_ (by first | omega | (simp <;> omega)) _ | with_reducible refine Below.setCell ?_ (by first | omega | (simp <;> omega)) _ | with_reducible refine Below.trans ?_ (Below.mono hb1 (by first | omega | (simp <;> omega))))
  obtain ⟨c0, c1, c2, c3, c4, c5, c6⟩ := A1.three
  clear C1 hb1
  go_wp2_with fail
  have P1 : Blk (w1.alloc (.cells #[.bool v, .int .u64 h, .int .u64 l, .int .i64 b] 28)) w1.heap.size #[.bool v, .int .u64 h, .int .u64 l, .int .i64 b] 28 := Blk.new _ _ _
  have B2 : Below w.heap.size w (w1.alloc (.cells #[.bool v, .int .u64 h, .int .u64 l, .int .i64 b] 28)) := B1.alloc (Nat.le_of_lt A1.lt) _
  have S0 : Q3 w.heap.size v h l _ := Q3.of (A1.alloc (.cells #[.bool v, .int .u64 h, .int .u64 l, .int .i64 b] 28))
  have hne : w.heap.size ≠ w1.heap.size := Nat.ne_of_lt A1.lt
  refine wp_region_held_drew (S := (Q3 w.heap.size v h l)) (by kernel_rfl) ?hS100 (fun hHeld => ?rest100)
  case hS100 => (first | with_reducible exact S0.drew | with_reducible exact hHeld | exact hHeld.below hb3 | exact hHeld.below hb4 | exact hHeld.below hb5 | exact hHeld.far hne _ _ _ _)
  refine wpAnyH_take (i := 0) (oi := _) (v := ?v101) (List.getElem?_toArray.trans rfl) (by kernel_rfl) (by kernel_rfl) (by kernel_rfl) (fun _ _ _ h => h) (Or.inl ⟨by rfl, ?hy101⟩) (by assumption) ?rest101
  case hy101 => (intro wq hSw; (try simp only [Two, Q3] at hSw); go_simp; try with_reducible rfl)
  try simp only [Act.put, List.setIfInBounds_toArray, List.set_cons_zero, List.set_cons_succ]
  refine wpAnyH_take (i := 1) (oi := _) (v := ?v102) (List.getElem?_toArray.trans rfl) (by kernel_rfl) (by kernel_rfl) (by kernel_rfl) (fun _ _ _ h => h) (Or.inl ⟨by rfl, ?hy102⟩) (by assumption) ?rest102
  case hy102 => (intro wq hSw; (try simp only [Two, Q3] at hSw); go_simp; try with_reducible rfl)
  try simp only [Act.put, List.setIfInBounds_toArray, List.set_cons_zero, List.set_cons_succ]
  refine wpAnyH_ready (rs := [2]) (by kernel_rfl) (by simp) ?rdy103
  refine AllReadyH.cons (List.getElem?_toArray.trans rfl) (fun K hK => ?stp103) AllReadyH.nil
  go_simp
  go_wp2_with fail
  skip
  go_wp2_with fail
  refine hK.out _ _ ?hSn103 (fun hHeld2 => ?rest103)
  case hSn103 => (first | with_reducible exact S0.drew | with_reducible exact hHeld | exact hHeld.below hb3 | exact hHeld.below hb4 | exact hHeld.below hb5 | exact hHeld.far hne _ _ _ _)
  clear hK K hHeld
  have hHeld := hHeld2
  clear hHeld2
  try simp only [Act.put, List.setIfInBounds_toArray, List.set_cons_zero, List.set_cons_succ]
  refine wpAnyH_ready (rs := [3]) (by kernel_rfl) (by simp) ?rdy104
  refine AllReadyH.cons (List.getElem?_toArray.trans rfl) (fun K hK => ?stp104) AllReadyH.nil
  go_simp
  go_wp2_with fail
  (refine (C2.out _).mono ?_; rintro e w3 ⟨rfl, hb3⟩; have B3 : Below w.heap.size w w3 := Below.via hb3 B2 (Nat.le_refl _) rfl rfl rfl rfl)
  go_wp2_with fail
  refine hK.out _ _ ?hSn104 (fun hHeld2 => ?rest104)
  case hSn104 => (first | with_reducible exact S0.drew | with_reducible exact hHeld | exact hHeld.below hb3 | exact hHeld.below hb4 | exact hHeld.below hb5 | exact hHeld.far hne _ _ _ _)
  clear hK K hHeld
  have hHeld := hHeld2
  clear hHeld2
  try simp only [Act.put, List.setIfInBounds_toArray, List.set_cons_zero, List.set_cons_succ]
  refine wpAnyH_ready (rs := [4]) (by kernel_rfl) (by simp) ?rdy105
  refine AllReadyH.cons (List.getElem?_toArray.trans rfl) (fun K hK => ?stp105) AllReadyH.nil
  go_simp
  go_wp2_with fail
  (refine (C3.out _).mono ?_; rintro e w4 ⟨rfl, hb4⟩; have B4 : Below w.heap.size w w4 := Below.via hb4 B3 (Nat.le_refl _) rfl rfl rfl rfl)
  go_wp2_with fail
  refine hK.out _ _ ?hSn105 (fun hHeld2 => ?rest105)
  case hSn105 => (first | with_reducible exact S0.drew | with_reducible exact hHeld | exact hHeld.below hb3 | exact hHeld.below hb4 | exact hHeld.below hb5 | exact hHeld.far hne _ _ _ _)
  clear hK K hHeld
  have hHeld := hHeld2
  clear hHeld2
  try simp only [Act.put, List.setIfInBounds_toArray, List.set_cons_zero, List.set_cons_succ]
  refine wpAnyH_ready (rs := [5]) (by kernel_rfl) (by simp) ?rdy106
  refine AllReadyH.cons (List.getElem?_toArray.trans rfl) (fun K hK => ?stp106) AllReadyH.nil
  go_simp
  go_wp2_with fail
  (refine (C4.out _).mono ?_; rintro e w5 ⟨rfl, hb5⟩; have B5 : Below w.heap.size w w5 := Below.via hb5 B4 (Nat.le_refl _) rfl rfl rfl rfl; obtain ⟨p0, p1, p2, p3, p4, p5, p6, p7, p8⟩ := (((P1.via hb3 rfl).below hb4).below hb5).four)
  go_wp2_with fail
  refine hK.out _ _ ?hSn106 (fun hHeld2 => ?rest106)
  case hSn106 => (first | with_reducible exact S0.drew | with_reducible exact hHeld | exact hHeld.below hb3 | exact hHeld.below hb4 | exact hHeld.below hb5 | exact hHeld.far hne _ _ _ _)
  clear hK K hHeld
  have hHeld := hHeld2
  clear hHeld2
  try simp only [Act.put, List.setIfInBounds_toArray, List.set_cons_zero, List.set_cons_succ]
  refine wpAnyH_take (i := 6) (oi := _) (v := ?v107) (List.getElem?_toArray.trans rfl) (by kernel_rfl) (by kernel_rfl) (by kernel_rfl) (fun _ _ _ h => h) (Or.inl ⟨by rfl, ?hy107⟩) (by assumption) ?rest107
  case hy107 => (intro wq hSw; (try simp only [Two, Q3] at hSw); go_simp; try with_reducible rfl)
  try simp only [Act.put, List.setIfInBounds_toArray, List.set_cons_zero, List.set_cons_succ]
  refine wpAnyH_take (i := 7) (oi := _) (v := ?v108) (List.getElem?_toArray.trans rfl) (by kernel_rfl) (by kernel_rfl) (by kernel_rfl) (fun _ _ _ h => h) (Or.inl ⟨by rfl, ?hy108⟩) (by assumption) ?rest108
  case hy108 => (intro wq hSw; (try simp only [Two, Q3] at hSw); go_simp; try with_reducible rfl)
  try simp only [Act.put, List.setIfInBounds_toArray, List.set_cons_zero, List.set_cons_succ]
  refine wpAnyH_ready (rs := [8]) (by kernel_rfl) (by simp) ?rdy109
  refine AllReadyH.cons (List.getElem?_toArray.trans rfl) (fun K hK => ?stp109) AllReadyH.nil
  go_simp
  go_wp2_with fail
  skip
  go_wp2_with fail
  refine hK.out _ _ ?hSn109 (fun hHeld2 => ?rest109)
  case hSn109 => (first | with_reducible exact S0.drew | with_reducible exact hHeld | exact hHeld.below hb3 | exact hHeld.below hb4 | exact hHeld.below hb5 | exact hHeld.far hne _ _ _ _)
  clear hK K hHeld
  have hHeld := hHeld2
  clear hHeld2
  try simp only [Act.put, List.setIfInBounds_toArray, List.set_cons_zero, List.set_cons_succ]
  refine wpAnyH_done (by kernel_rfl) ?fin100 _
  obtain ⟨r0, r1, r2, r3, r4, r5, r6, r7, r8⟩ := ((((R1.alloc (.cells #[.bool v, .int .u64 h, .int .u64 l, .int .i64 b] 28)).via hb3 rfl).below hb4).below hb5).four
  have hne2 : w.heap.size + 1 ≠ w1.heap.size := Nat.ne_of_lt R1.lt
  go_wp2
  refine bodyPost_ret (v := .tuple #[pv v rh rl b, .int .i64 0]) (by simp [results, Tryz.results48, go_sem, World.cell?_setCell_same', World.cell?_setCell_other, *]) rfl ⟨rfl, by repeat (first | with_reducible exact Below.refl _ _ | with_reducible refine Below.drew ?_ | with_reducible refine Below.alloc ?_ (by first | omega | (simp <;> omega)) _ | with_reducible refine Below.setCell ?_ (by first | omega | (simp <;> omega)) _ | with_reducible refine Below.trans ?_ (Below.mono B5 (by first | omega | (simp <;> omega))))⟩
end Go.Proofs.YtmhnfgfdggjdhaaGreatDoor

/-
  What Index and Host of package carve return, and the reference's Index and Number, for every prefix.
-/
import Derived.Test.YtmhnfgfdggjdhaaGreatDoorRef4a
import Derived.Deep.DeepCutAuto
namespace Go.Proofs.YtmhnfgfdggjdhaaGreatDoor
open Go.ChangeShapes Go.WideShapes Go.ChangeAt Go.RowKit
set_option linter.unusedVariables false
set_option linter.unusedSimpArgs false

theorem bitN_div (m s j : Nat) : bitN (m / 2 ^ s) j = bitN m (s + j) := by
  unfold bitN
  rw [Nat.div_div_eq_div_mul, ← Nat.pow_add]

/-- A piece of a row of bits. -/
theorem piece_bits {W m B C i : Nat} (hC : C ≤ W) (hB : B ≤ C) (hi : i < C - B) : bitN (m / 2 ^ (W - C) % 2 ^ (C - B)) (C - B - 1 - i) = bitN m (W - 1 - (B + i)) := by
  rw [bitN_mod _ _ _ (by omega), bitN_div]
  congr 1
  omega

/-- Its number is what is behind the prefix. -/
theorem piece_num {v : Bool} {n m W B C : Nat} (hW : widthA v = (W : Nat)) (hC : C ≤ W) (hB : B ≤ C) (hn : n = ofN v m (B : Nat)) : m / 2 ^ (W - C) % 2 ^ (C - B) = numN v n (C : Nat) m := by
  have e1 : behindP v (B : Nat) = W - B := by unfold behindP; omega
  have e2 : behindP v (C : Nat) = W - C := by unfold behindP; omega
  have e3 : W - B = W - C + (C - B) := by omega
  have md := Nat.div_add_mod m (2 ^ (W - B))
  have : m - n = m % 2 ^ (W - B) := by
    rw [hn]; unfold ofN; rw [e1]
    rw [Nat.mul_comm] at md
    omega
  unfold numN
  rw [e2, this, e3, Nat.pow_add, Nat.mod_mul_right_div_self]

theorem width_nat4 (v : Bool) : ∃ W : Nat, widthA v = (W : Nat) := by
  cases v
  · exact ⟨32, rfl⟩
  · exact ⟨128, rfl⟩

theorem idx_start (w : World) (v : Bool) (h l b : Int) (u : Bool) (qh ql c : Int) : Kn w [(w.heap.size + 1 + 1, [.int .u64 0, .int .u64 0], 24), (w.heap.size + 1, [.bool u, .int .u64 qh, .int .u64 ql, .int .i64 c], 28), (w.heap.size, [.bool v, .int .u64 h, .int .u64 l, .int .i64 b], 28)] (((w.alloc (.cells #[.bool v, .int .u64 h, .int .u64 l, .int .i64 b] 28)).alloc (.cells #[.bool u, .int .u64 qh, .int .u64 ql, .int .i64 c] 28)).alloc (.cells #[.int .u64 0, .int .u64 0] 24)) :=
  (((Kn.nil w).push rfl).push (by simp)).push (by simp)

theorem nmb_start (w : World) (v : Bool) (h l b : Int) (u : Bool) (ah al : Int) : Kn w [(w.heap.size + 1 + 1, [.int .u64 0, .int .u64 0], 24), (w.heap.size + 1, [.bool u, .int .u64 ah, .int .u64 al], 26), (w.heap.size, [.bool v, .int .u64 h, .int .u64 l, .int .i64 b], 28)] (((w.alloc (.cells #[.bool v, .int .u64 h, .int .u64 l, .int .i64 b] 28)).alloc (.cells #[.bool u, .int .u64 ah, .int .u64 al] 26)).alloc (.cells #[.int .u64 0, .int .u64 0] 24)) :=
  (((Kn.nil w).push rfl).push (by simp)).push (by simp)

set_option maxRecDepth 100000 in
set_option maxHeartbeats 800000 in
theorem idx_no1 {v u : Bool} {h l b qh ql c : Int} {n m : Nat} (hp : IsNum h l n) (hk : okP v n b = false) (w : World) :
    Calls Tryz.prog 36 #[pv v h l b, pv u qh ql c] w fun e w' => e = .returned (.tuple #[nv 0 0, .int .i64 1]) ∧ Below w.heap.size w w' := by
  have R1 : Hid (∀ w', Calls Tryz.prog 49 #[pv v h l b] w' fun e w1 => e = .returned (.bool false) ∧ Below w'.heap.size w' w1) := fun w' => hk ▸ pright_c hp w'
  have K := idx_start w v h l b u qh ql c
  clear hp hk
  go_enter Tryz.func36, Tryz.ntmps36
  go_wp2_with fail
  refine (R1.out _).mono ?_
  rintro e w1 ⟨rfl, hb⟩
  replace K := K.below hb
  have F := K.1
  simp only [Facts, CellsAt] at F
  clear hb R1
  obtain ⟨r0, r1, r2, r3, r4⟩ := K.2.1.1.two
  have B := K.bel
  clear K F
  go_wp2
  refine bodyPost_ret (v := .tuple #[nv 0 0, .int .i64 1]) (by simp [results, Tryz.results36, go_sem, World.cell?_setCell_same', World.cell?_setCell_other, *]) rfl ⟨rfl, by repeat (first | with_reducible exact Below.refl _ _ | with_reducible refine Below.drew ?_ | with_reducible refine Below.alloc ?_ (by first | omega | (simp <;> omega)) _ | with_reducible refine Below.setCell ?_ (by first | omega | (simp <;> omega)) _ | with_reducible refine Below.trans ?_ (Below.mono B (by first | omega | (simp <;> omega))))⟩

set_option maxRecDepth 100000 in
set_option maxHeartbeats 800000 in
theorem idx_no2 {v u : Bool} {h l b qh ql c : Int} {n m : Nat} (hp : IsNum h l n) (hq : IsNum qh ql m) (hk : okP v n b = true) (hk2 : okP u m c = false) (w : World) :
    Calls Tryz.prog 36 #[pv v h l b, pv u qh ql c] w fun e w' => e = .returned (.tuple #[nv 0 0, .int .i64 1]) ∧ Below w.heap.size w w' := by
  have R1 : Hid (∀ w', Calls Tryz.prog 49 #[pv v h l b] w' fun e w1 => e = .returned (.bool true) ∧ Below w'.heap.size w' w1) := fun w' => hk ▸ pright_c hp w'
  have R2 : Hid (∀ w', Calls Tryz.prog 49 #[pv u qh ql c] w' fun e w1 => e = .returned (.bool false) ∧ Below w'.heap.size w' w1) := fun w' => hk2 ▸ pright_c hq w'
  have K := idx_start w v h l b u qh ql c
  clear hp hq hk hk2
  go_enter Tryz.func36, Tryz.ntmps36
  go_wp2_with fail
  refine (R1.out _).mono ?_
  rintro e w1 ⟨rfl, hb⟩
  replace K := K.below hb
  have F := K.1
  simp only [Facts, CellsAt] at F
  clear hb R1
  go_wp2_with fail
  refine (R2.out _).mono ?_
  rintro e w2 ⟨rfl, hb⟩
  replace K := K.below hb
  replace F := K.1
  simp only [Facts, CellsAt] at F
  clear hb R2
  obtain ⟨r0, r1, r2, r3, r4⟩ := K.2.1.1.two
  have B := K.bel
  clear K F
  go_wp2
  refine bodyPost_ret (v := .tuple #[nv 0 0, .int .i64 1]) (by simp [results, Tryz.results36, go_sem, World.cell?_setCell_same', World.cell?_setCell_other, *]) rfl ⟨rfl, by repeat (first | with_reducible exact Below.refl _ _ | with_reducible refine Below.drew ?_ | with_reducible refine Below.alloc ?_ (by first | omega | (simp <;> omega)) _ | with_reducible refine Below.setCell ?_ (by first | omega | (simp <;> omega)) _ | with_reducible refine Below.trans ?_ (Below.mono B (by first | omega | (simp <;> omega))))⟩

set_option maxRecDepth 100000 in
set_option maxHeartbeats 800000 in
theorem idx_out {v u : Bool} {h l b qh ql c : Int} {n m : Nat} (hp : IsNum h l n) (hq : IsNum qh ql m) (hk : okP v n b = true) (hk2 : okP u m c = true) (hw : withinB u m c v n b = false) (w : World) :
    Calls Tryz.prog 36 #[pv v h l b, pv u qh ql c] w fun e w' => e = .returned (.tuple #[nv 0 0, .int .i64 12]) ∧ Below w.heap.size w w' := by
  have R1 : Hid (∀ w', Calls Tryz.prog 49 #[pv v h l b] w' fun e w1 => e = .returned (.bool true) ∧ Below w'.heap.size w' w1) := fun w' => hk ▸ pright_c hp w'
  have R2 : Hid (∀ w', Calls Tryz.prog 49 #[pv u qh ql c] w' fun e w1 => e = .returned (.bool true) ∧ Below w'.heap.size w' w1) := fun w' => hk2 ▸ pright_c hq w'
  have W1 : Hid (∀ w', Calls Tryz.prog 24 #[pv u qh ql c, pv v h l b] w' fun e w1 => e = .returned (.bool false) ∧ Below w'.heap.size w' w1) := fun w' => hw ▸ within_c hq hp w'
  have K := idx_start w v h l b u qh ql c
  clear hp hq hk hk2 hw
  go_enter Tryz.func36, Tryz.ntmps36
  go_wp2_with fail
  refine (R1.out _).mono ?_
  rintro e w1 ⟨rfl, hb⟩
  replace K := K.below hb
  have F := K.1
  simp only [Facts, CellsAt] at F
  clear hb R1
  go_wp2_with fail
  refine (R2.out _).mono ?_
  rintro e w2 ⟨rfl, hb⟩
  replace K := K.below hb
  replace F := K.1
  simp only [Facts, CellsAt] at F
  clear hb R2
  go_wp2_with fail
  refine (W1.out _).mono ?_
  rintro e w3 ⟨rfl, hb⟩
  replace K := K.below hb
  replace F := K.1
  simp only [Facts, CellsAt] at F
  clear hb W1
  obtain ⟨r0, r1, r2, r3, r4⟩ := K.2.1.1.two
  have B := K.bel
  clear K F
  go_wp2
  refine bodyPost_ret (v := .tuple #[nv 0 0, .int .i64 12]) (by simp [results, Tryz.results36, go_sem, World.cell?_setCell_same', World.cell?_setCell_other, *]) rfl ⟨rfl, by repeat (first | with_reducible exact Below.refl _ _ | with_reducible refine Below.drew ?_ | with_reducible refine Below.alloc ?_ (by first | omega | (simp <;> omega)) _ | with_reducible refine Below.setCell ?_ (by first | omega | (simp <;> omega)) _ | with_reducible refine Below.trans ?_ (Below.mono B (by first | omega | (simp <;> omega))))⟩

set_option maxRecDepth 100000 in
set_option maxHeartbeats 800000 in
theorem ridx_no1 {v u : Bool} {h l b qh ql c : Int} {n m : Nat} (hp : IsNum h l n) (hk : okP v n b = false) (w : World) :
    Calls Tryz.prog 37 #[pv v h l b, pv u qh ql c] w fun e w' => e = .returned (.tuple #[nv 0 0, .int .i64 1]) ∧ Below w.heap.size w w' := by
  have R1 : Hid (∀ w', Calls Tryz.prog 13 #[pv v h l b] w' fun e w1 => e = .returned (.bool false) ∧ Below w'.heap.size w' w1) := fun w' => hk ▸ rpright_c hp w'
  have K := idx_start w v h l b u qh ql c
  clear hp hk
  go_enter Tryz.func37, Tryz.ntmps37
  go_wp2_with fail
  refine (R1.out _).mono ?_
  rintro e w1 ⟨rfl, hb⟩
  replace K := K.below hb
  have F := K.1
  simp only [Facts, CellsAt] at F
  clear hb R1
  obtain ⟨r0, r1, r2, r3, r4⟩ := K.2.1.1.two
  have B := K.bel
  clear K F
  go_wp2
  refine bodyPost_ret (v := .tuple #[nv 0 0, .int .i64 1]) (by simp [results, Tryz.results37, go_sem, World.cell?_setCell_same', World.cell?_setCell_other, *]) rfl ⟨rfl, by repeat (first | with_reducible exact Below.refl _ _ | with_reducible refine Below.drew ?_ | with_reducible refine Below.alloc ?_ (by first | omega | (simp <;> omega)) _ | with_reducible refine Below.setCell ?_ (by first | omega | (simp <;> omega)) _ | with_reducible refine Below.trans ?_ (Below.mono B (by first | omega | (simp <;> omega))))⟩

set_option maxRecDepth 100000 in
set_option maxHeartbeats 800000 in
theorem ridx_no2 {v u : Bool} {h l b qh ql c : Int} {n m : Nat} (hp : IsNum h l n) (hq : IsNum qh ql m) (hk : okP v n b = true) (hk2 : okP u m c = false) (w : World) :
    Calls Tryz.prog 37 #[pv v h l b, pv u qh ql c] w fun e w' => e = .returned (.tuple #[nv 0 0, .int .i64 1]) ∧ Below w.heap.size w w' := by
  have R1 : Hid (∀ w', Calls Tryz.prog 13 #[pv v h l b] w' fun e w1 => e = .returned (.bool true) ∧ Below w'.heap.size w' w1) := fun w' => hk ▸ rpright_c hp w'
  have R2 : Hid (∀ w', Calls Tryz.prog 13 #[pv u qh ql c] w' fun e w1 => e = .returned (.bool false) ∧ Below w'.heap.size w' w1) := fun w' => hk2 ▸ rpright_c hq w'
  have K := idx_start w v h l b u qh ql c
  clear hp hq hk hk2
  go_enter Tryz.func37, Tryz.ntmps37
  go_wp2_with fail
  refine (R1.out _).mono ?_
  rintro e w1 ⟨rfl, hb⟩
  replace K := K.below hb
  have F := K.1
  simp only [Facts, CellsAt] at F
  clear hb R1
  go_wp2_with fail
  refine (R2.out _).mono ?_
  rintro e w2 ⟨rfl, hb⟩
  replace K := K.below hb
  replace F := K.1
  simp only [Facts, CellsAt] at F
  clear hb R2
  obtain ⟨r0, r1, r2, r3, r4⟩ := K.2.1.1.two
  have B := K.bel
  clear K F
  go_wp2
  refine bodyPost_ret (v := .tuple #[nv 0 0, .int .i64 1]) (by simp [results, Tryz.results37, go_sem, World.cell?_setCell_same', World.cell?_setCell_other, *]) rfl ⟨rfl, by repeat (first | with_reducible exact Below.refl _ _ | with_reducible refine Below.drew ?_ | with_reducible refine Below.alloc ?_ (by first | omega | (simp <;> omega)) _ | with_reducible refine Below.setCell ?_ (by first | omega | (simp <;> omega)) _ | with_reducible refine Below.trans ?_ (Below.mono B (by first | omega | (simp <;> omega))))⟩

set_option maxRecDepth 100000 in
set_option maxHeartbeats 800000 in
theorem ridx_out {v u : Bool} {h l b qh ql c : Int} {n m : Nat} (hp : IsNum h l n) (hq : IsNum qh ql m) (hk : okP v n b = true) (hk2 : okP u m c = true) (hw : withinB u m c v n b = false) (w : World) :
    Calls Tryz.prog 37 #[pv v h l b, pv u qh ql c] w fun e w' => e = .returned (.tuple #[nv 0 0, .int .i64 12]) ∧ Below w.heap.size w w' := by
  have R1 : Hid (∀ w', Calls Tryz.prog 13 #[pv v h l b] w' fun e w1 => e = .returned (.bool true) ∧ Below w'.heap.size w' w1) := fun w' => hk ▸ rpright_c hp w'
  have R2 : Hid (∀ w', Calls Tryz.prog 13 #[pv u qh ql c] w' fun e w1 => e = .returned (.bool true) ∧ Below w'.heap.size w' w1) := fun w' => hk2 ▸ rpright_c hq w'
  have W1 : Hid (∀ w', Calls Tryz.prog 77 #[pv u qh ql c, pv v h l b] w' fun e w1 => e = .returned (.bool false) ∧ Below w'.heap.size w' w1) := fun w' => hw ▸ rwithin_c hq hp w'
  have K := idx_start w v h l b u qh ql c
  clear hp hq hk hk2 hw
  go_enter Tryz.func37, Tryz.ntmps37
  go_wp2_with fail
  refine (R1.out _).mono ?_
  rintro e w1 ⟨rfl, hb⟩
  replace K := K.below hb
  have F := K.1
  simp only [Facts, CellsAt] at F
  clear hb R1
  go_wp2_with fail
  refine (R2.out _).mono ?_
  rintro e w2 ⟨rfl, hb⟩
  replace K := K.below hb
  replace F := K.1
  simp only [Facts, CellsAt] at F
  clear hb R2
  go_wp2_with fail
  refine (W1.out _).mono ?_
  rintro e w3 ⟨rfl, hb⟩
  replace K := K.below hb
  replace F := K.1
  simp only [Facts, CellsAt] at F
  clear hb W1
  obtain ⟨r0, r1, r2, r3, r4⟩ := K.2.1.1.two
  have B := K.bel
  clear K F
  go_wp2
  refine bodyPost_ret (v := .tuple #[nv 0 0, .int .i64 12]) (by simp [results, Tryz.results37, go_sem, World.cell?_setCell_same', World.cell?_setCell_other, *]) rfl ⟨rfl, by repeat (first | with_reducible exact Below.refl _ _ | with_reducible refine Below.drew ?_ | with_reducible refine Below.alloc ?_ (by first | omega | (simp <;> omega)) _ | with_reducible refine Below.setCell ?_ (by first | omega | (simp <;> omega)) _ | with_reducible refine Below.trans ?_ (Below.mono B (by first | omega | (simp <;> omega))))⟩

set_option maxRecDepth 100000 in
set_option maxHeartbeats 1600000 in
theorem idx_ok {v : Bool} {h l b qh ql c rh rl : Int} {n m : Nat} (hp : IsNum h l n) (hq : IsNum qh ql m) (hk : okP v n b = true) (hk2 : okP v m c = true) (hw : withinB v m c v n b = true) (hr : IsNum rh rl (numN v n c m)) (w : World) :
    Calls Tryz.prog 36 #[pv v h l b, pv v qh ql c] w fun e w' => e = .returned (.tuple #[nv rh rl, .int .i64 0]) ∧ Below w.heap.size w w' := by
  have R1 : Hid (∀ w', Calls Tryz.prog 49 #[pv v h l b] w' fun e w1 => e = .returned (.bool true) ∧ Below w'.heap.size w' w1) := fun w' => hk ▸ pright_c hp w'
  have R2 : Hid (∀ w', Calls Tryz.prog 49 #[pv v qh ql c] w' fun e w1 => e = .returned (.bool true) ∧ Below w'.heap.size w' w1) := fun w' => hk2 ▸ pright_c hq w'
  have W1 : Hid (∀ w', Calls Tryz.prog 24 #[pv v qh ql c, pv v h l b] w' fun e w1 => e = .returned (.bool true) ∧ Below w'.heap.size w' w1) := fun w' => hw ▸ within_c hq hp w'
  obtain ⟨oq, c0, c1⟩ := fitsB_parts (okP_parts hk2).1
  have B1 : Hid (∀ w', Calls Tryz.prog 76 #[pv v h l b, .int .i64 c, av v qh ql] w' fun e w1 => e = .returned (nv rh rl) ∧ Below w'.heap.size w' w1) := fun w' => blockOf_is hp hq (fitsB_parts (okP_parts hk).1).1 oq ((has_ends hk hp.lt).1 (within_parts hw).2.2).1 c0 c1 hr w'
  have K := idx_start w v h l b v qh ql c
  clear hp hq hk hk2 hw hr oq c0 c1
  go_enter Tryz.func36, Tryz.ntmps36
  go_wp2_with fail
  refine (R1.out _).mono ?_
  rintro e w1 ⟨rfl, hb⟩
  replace K := K.below hb
  have F := K.1
  simp only [Facts, CellsAt] at F
  clear hb R1
  go_wp2_with fail
  refine (R2.out _).mono ?_
  rintro e w2 ⟨rfl, hb⟩
  replace K := K.below hb
  replace F := K.1
  simp only [Facts, CellsAt] at F
  clear hb R2
  go_wp2_with fail
  refine (W1.out _).mono ?_
  rintro e w3 ⟨rfl, hb⟩
  replace K := K.below hb
  replace F := K.1
  simp only [Facts, CellsAt] at F
  clear hb W1
  go_wp2_with fail
  refine (B1.out _).mono ?_
  rintro e w4 ⟨rfl, hb⟩
  replace K := K.below hb
  replace F := K.1
  simp only [Facts, CellsAt] at F
  clear hb B1
  obtain ⟨r0, r1, r2, r3, r4⟩ := K.2.1.1.two
  have B := K.bel
  clear K F
  go_wp2
  refine bodyPost_ret (v := .tuple #[nv rh rl, .int .i64 0]) (by simp [results, Tryz.results36, go_sem, World.cell?_setCell_same', World.cell?_setCell_other, *]) rfl ⟨rfl, by repeat (first | with_reducible exact Below.refl _ _ | with_reducible refine Below.drew ?_ | with_reducible refine Below.alloc ?_ (by first | omega | (simp <;> omega)) _ | with_reducible refine Below.setCell ?_ (by first | omega | (simp <;> omega)) _ | with_reducible refine Below.trans ?_ (Below.mono B (by first | omega | (simp <;> omega))))⟩

set_option maxRecDepth 100000 in
set_option maxHeartbeats 1600000 in
theorem ridx_ok {v : Bool} {h l b qh ql c rh rl : Int} {n m : Nat} (hp : IsNum h l n) (hq : IsNum qh ql m) (hk : okP v n b = true) (hk2 : okP v m c = true) (hw : withinB v m c v n b = true) (hr : IsNum rh rl (numN v n c m)) (w : World) :
    Calls Tryz.prog 37 #[pv v h l b, pv v qh ql c] w fun e w' => e = .returned (.tuple #[nv rh rl, .int .i64 0]) ∧ Below w.heap.size w w' := by
  have R1 : Hid (∀ w', Calls Tryz.prog 13 #[pv v h l b] w' fun e w1 => e = .returned (.bool true) ∧ Below w'.heap.size w' w1) := fun w' => hk ▸ rpright_c hp w'
  have R2 : Hid (∀ w', Calls Tryz.prog 13 #[pv v qh ql c] w' fun e w1 => e = .returned (.bool true) ∧ Below w'.heap.size w' w1) := fun w' => hk2 ▸ rpright_c hq w'
  have W1 : Hid (∀ w', Calls Tryz.prog 77 #[pv v qh ql c, pv v h l b] w' fun e w1 => e = .returned (.bool true) ∧ Below w'.heap.size w' w1) := fun w' => hw ▸ rwithin_c hq hp w'
  obtain ⟨W, hW⟩ := width_nat4 v
  obtain ⟨oq, c0, c1⟩ := fitsB_parts (okP_parts hk2).1
  obtain ⟨op, b0, b1⟩ := fitsB_parts (okP_parts hk).1
  obtain ⟨_, hbc, hh⟩ := within_parts hw
  obtain ⟨B, hB⟩ : ∃ B : Nat, b = (B : Int) := ⟨b.toNat, by omega⟩
  obtain ⟨C, hC⟩ : ∃ C : Nat, c = (C : Int) := ⟨c.toNat, by omega⟩
  have hW2 := width_le v
  have cv := piece_num (v := v) (n := n) (m := m) hW (B := B) (C := C) (by omega) (by omega) (by rw [← hB]; exact (has_parts hh).2.2)
  have RO : Hid (∀ w', Calls Tryz.prog 59 #[av v qh ql] w' fun e w1 => ∃ g o cap N, e = .returned (.slice (some ⟨g, 0, none⟩) W cap) ∧ (∀ W', (Instr.sliceAt 77 (.slice (some ⟨g, 0, none⟩) W cap) (some (.int .i64 b)) (some (.int .i64 c)) none).run Tryz.prog W' = .ok (.slice (some ⟨g, o, none⟩) N (cap - B)) W') ∧ Hid (Calls Tryz.prog 78 #[.slice (some ⟨g, o, none⟩) N (cap - B)] w1 fun e w2 => e = .returned (nv rh rl) ∧ Below w1.heap.size w1 w2) ∧ Below w'.heap.size w' w1) := fun w' => by
    refine (row_any hW hq w').mono ?_
    rintro e w1 ⟨g, cap, rfl, hcap, hm, hRw, hb⟩
    have cells (o : Nat) (ho : o = B ∨ C - B = 0) : ∀ i, i < C - B → w1.cell? ⟨g, o + i, none⟩ = some (.int .i64 ((bitN (m / 2 ^ (W - C) % 2 ^ (C - B)) (C - B - 1 - i) : Nat) : Int)) := by
      intro i hi
      obtain rfl : o = B := by omega
      rw [piece_bits (by omega) (by omega) hi]
      exact hRw.2.1 (o + i) (by omega)
    have numc (o : Nat) (ho : o = B ∨ C - B = 0) := num4_is (N := C - B) (by omega) (Nat.mod_lt _ (pow_pos2 _)) (hr.cast (by rw [cv, hC])) g o (cap - B) w1 hRw.1 (cells o ho)
    by_cases hcq : cap = B
    · refine ⟨g, 0, cap, C - B, rfl, fun W' => ?_, numc 0 (by omega), hb⟩
      have q1 : C ≤ B := by omega
      have q2 : B ≤ C := by omega
      clear numc cells
      subst hB hC
      go_simp
      try (intro hx; omega)
    · refine ⟨g, B, cap, C - B, rfl, fun W' => ?_, numc B (by omega), hb⟩
      have q1 : C ≤ cap := by omega
      have q2 : B ≤ C := by omega
      clear numc cells
      subst hB hC
      go_simp
      try (intro hx; omega)
  have K := idx_start w v h l b v qh ql c
  clear hp hq hk hk2 hw hr oq c0 c1 op b0 b1 hbc hh hW2 cv hW hB hC
  go_enter Tryz.func37, Tryz.ntmps37
  go_wp2_with fail
  refine (R1.out _).mono ?_
  rintro e w1 ⟨rfl, hb⟩
  replace K := K.below hb
  have F := K.1
  simp only [Facts, CellsAt] at F
  clear hb R1
  go_wp2_with fail
  refine (R2.out _).mono ?_
  rintro e w2 ⟨rfl, hb⟩
  replace K := K.below hb
  replace F := K.1
  simp only [Facts, CellsAt] at F
  clear hb R2
  go_wp2_with fail
  refine (W1.out _).mono ?_
  rintro e w3 ⟨rfl, hb⟩
  replace K := K.below hb
  replace F := K.1
  simp only [Facts, CellsAt] at F
  clear hb W1
  have R0 : Kn w [(w.heap.size + 1, [.bool v, .int .u64 qh, .int .u64 ql, .int .i64 c], 28), (w.heap.size, [.bool v, .int .u64 h, .int .u64 l, .int .i64 b], 28)] w3 := K.tail
  have N0 := K.2.1.1
  clear K F
  go_wp2_with fail
  refine wp_region_held_drew (S := (Kn w [(w.heap.size + 1, [.bool v, .int .u64 qh, .int .u64 ql, .int .i64 c], 28), (w.heap.size, [.bool v, .int .u64 h, .int .u64 l, .int .i64 b], 28)])) (by kernel_rfl) ?hS100 (fun hHeld => ?rest100)
  case hS100 => (first | with_reducible exact R0.drew | with_reducible exact hHeld.below hb4 | with_reducible exact hHeld.below hb5 | exact hHeld.far2 (by simp only [Off]; repeat' (first | exact trivial | refine And.intro ?_ ?_ | omega)) (by omega) _ _)
  refine wpAnyH_take (i := 0) (oi := _) (v := ?v101) (List.getElem?_toArray.trans rfl) (by kernel_rfl) (by kernel_rfl) (by kernel_rfl) (fun _ _ _ h => h) (Or.inl ⟨by rfl, ?hy101⟩) (by assumption) ?rest101
  case hy101 => (intro wq hSw; (try simp only [Two, Kn, Facts, CellsAt] at hSw); go_simp; try with_reducible rfl)
  try simp only [Act.put, List.setIfInBounds_toArray, List.set_cons_zero, List.set_cons_succ]
  refine wpAnyH_take (i := 1) (oi := _) (v := ?v102) (List.getElem?_toArray.trans rfl) (by kernel_rfl) (by kernel_rfl) (by kernel_rfl) (fun _ _ _ h => h) (Or.inl ⟨by rfl, ?hy102⟩) (by assumption) ?rest102
  case hy102 => (intro wq hSw; (try simp only [Two, Kn, Facts, CellsAt] at hSw); go_simp; try with_reducible rfl)
  try simp only [Act.put, List.setIfInBounds_toArray, List.set_cons_zero, List.set_cons_succ]
  refine wpAnyH_take (i := 3) (oi := _) (v := ?v103) (List.getElem?_toArray.trans rfl) (by kernel_rfl) (by kernel_rfl) (by kernel_rfl) (fun _ _ _ h => h) (Or.inl ⟨by rfl, ?hy103⟩) (by assumption) ?rest103
  case hy103 => (intro wq hSw; (try simp only [Two, Kn, Facts, CellsAt] at hSw); go_simp; try with_reducible rfl)
  try simp only [Act.put, List.setIfInBounds_toArray, List.set_cons_zero, List.set_cons_succ]
  refine wpAnyH_take (i := 4) (oi := _) (v := ?v104) (List.getElem?_toArray.trans rfl) (by kernel_rfl) (by kernel_rfl) (by kernel_rfl) (fun _ _ _ h => h) (Or.inl ⟨by rfl, ?hy104⟩) (by assumption) ?rest104
  case hy104 => (intro wq hSw; (try simp only [Two, Kn, Facts, CellsAt] at hSw); go_simp; try with_reducible rfl)
  try simp only [Act.put, List.setIfInBounds_toArray, List.set_cons_zero, List.set_cons_succ]
  refine wpAnyH_take (i := 5) (oi := _) (v := ?v105) (List.getElem?_toArray.trans rfl) (by kernel_rfl) (by kernel_rfl) (by kernel_rfl) (fun _ _ _ h => h) (Or.inl ⟨by rfl, ?hy105⟩) (by assumption) ?rest105
  case hy105 => (intro wq hSw; (try simp only [Two, Kn, Facts, CellsAt] at hSw); go_simp; try with_reducible rfl)
  try simp only [Act.put, List.setIfInBounds_toArray, List.set_cons_zero, List.set_cons_succ]
  refine wpAnyH_take (i := 6) (oi := _) (v := ?v106) (List.getElem?_toArray.trans rfl) (by kernel_rfl) (by kernel_rfl) (by kernel_rfl) (fun _ _ _ h => h) (Or.inl ⟨by rfl, ?hy106⟩) (by assumption) ?rest106
  case hy106 => (intro wq hSw; (try simp only [Two, Kn, Facts, CellsAt] at hSw); go_simp; try with_reducible rfl)
  try simp only [Act.put, List.setIfInBounds_toArray, List.set_cons_zero, List.set_cons_succ]
  refine wpAnyH_ready (rs := [2]) (by kernel_rfl) (by simp) ?rdy107
  refine AllReadyH.cons (List.getElem?_toArray.trans rfl) (fun K hK => ?stp107) AllReadyH.nil
  go_simp
  go_wp2_with fail
  (refine (RO.out _).mono ?_; rintro e w4 ⟨g, o, cap, N, rfl, sl, NU, hb4⟩)
  go_wp2_with fail
  refine hK.out _ _ ?hSn107 (fun hHeld2 => ?rest107)
  case hSn107 => (first | with_reducible exact R0.drew | with_reducible exact hHeld.below hb4 | with_reducible exact hHeld.below hb5 | exact hHeld.far2 (by simp only [Off]; repeat' (first | exact trivial | refine And.intro ?_ ?_ | omega)) (by omega) _ _)
  clear hK K hHeld
  have hHeld := hHeld2
  clear hHeld2
  try simp only [Act.put, List.setIfInBounds_toArray, List.set_cons_zero, List.set_cons_succ]
  refine wpAnyH_take (i := 7) (oi := _) (v := ?v108) (List.getElem?_toArray.trans rfl) (by kernel_rfl) (by kernel_rfl) (by kernel_rfl) (fun _ _ _ h => h) (Or.inl ⟨by rfl, ?hy108⟩) (by assumption) ?rest108
  case hy108 => (intro wq hSw; (try simp only [Two, Kn, Facts, CellsAt] at hSw); go_simp; try with_reducible rfl)
  try simp only [Act.put, List.setIfInBounds_toArray, List.set_cons_zero, List.set_cons_succ]
  refine wpAnyH_ready (rs := [8]) (by kernel_rfl) (by simp) ?rdy109
  refine AllReadyH.cons (List.getElem?_toArray.trans rfl) (fun K hK => ?stp109) AllReadyH.nil
  go_simp
  go_wp2_with fail
  (refine NU.out.mono ?_; rintro e w5 ⟨rfl, hb5⟩; have B5 := (hHeld.below hb5).bel; obtain ⟨r0, r1, r2, r3, r4⟩ := ((N0.via hb4 rfl).below hb5).two)
  go_wp2_with fail
  refine hK.out _ _ ?hSn109 (fun hHeld2 => ?rest109)
  case hSn109 => (first | with_reducible exact R0.drew | with_reducible exact hHeld.below hb4 | with_reducible exact hHeld.below hb5 | exact hHeld.far2 (by simp only [Off]; repeat' (first | exact trivial | refine And.intro ?_ ?_ | omega)) (by omega) _ _)
  clear hK K hHeld
  have hHeld := hHeld2
  clear hHeld2
  try simp only [Act.put, List.setIfInBounds_toArray, List.set_cons_zero, List.set_cons_succ]
  refine wpAnyH_ready (rs := [9]) (by kernel_rfl) (by simp) ?rdy110
  refine AllReadyH.cons (List.getElem?_toArray.trans rfl) (fun K hK => ?stp110) AllReadyH.nil
  go_simp
  go_wp2_with fail
  skip
  go_wp2_with fail
  refine hK.out _ _ ?hSn110 (fun hHeld2 => ?rest110)
  case hSn110 => (first | with_reducible exact R0.drew | with_reducible exact hHeld.below hb4 | with_reducible exact hHeld.below hb5 | exact hHeld.far2 (by simp only [Off]; repeat' (first | exact trivial | refine And.intro ?_ ?_ | omega)) (by omega) _ _)
  clear hK K hHeld
  have hHeld := hHeld2
  clear hHeld2
  try simp only [Act.put, List.setIfInBounds_toArray, List.set_cons_zero, List.set_cons_succ]
  refine wpAnyH_take (i := 10) (oi := _) (v := ?v111) (List.getElem?_toArray.trans rfl) (by kernel_rfl) (by kernel_rfl) (by kernel_rfl) (fun _ _ _ h => h) (Or.inl ⟨by rfl, ?hy111⟩) (by assumption) ?rest111
  case hy111 => (intro wq hSw; (try simp only [Two, Kn, Facts, CellsAt] at hSw); go_simp; try with_reducible rfl)
  try simp only [Act.put, List.setIfInBounds_toArray, List.set_cons_zero, List.set_cons_succ]
  refine wpAnyH_done (by kernel_rfl) ?fin100 _
  clear hHeld hb4 hb5 R0 N0 RO NU sl
  go_wp2
  refine bodyPost_ret (v := .tuple #[nv rh rl, .int .i64 0]) (by simp [results, Tryz.results37, go_sem, World.cell?_setCell_same', World.cell?_setCell_other, *]) rfl ⟨rfl, by repeat (first | with_reducible exact Below.refl _ _ | with_reducible refine Below.drew ?_ | with_reducible refine Below.alloc ?_ (by first | omega | (simp <;> omega)) _ | with_reducible refine Below.setCell ?_ (by first | omega | (simp <;> omega)) _ | with_reducible refine Below.trans ?_ (Below.mono B5 (by first | omega | (simp <;> omega))))⟩

set_option maxRecDepth 100000 in
set_option maxHeartbeats 800000 in
theorem rnmb_no {v u : Bool} {h l b ah al : Int} {n : Nat} (hp : IsNum h l n) (hk : okP v n b = false) (w : World) :
    Calls Tryz.prog 39 #[pv v h l b, av u ah al] w fun e w' => e = .returned (.tuple #[nv 0 0, .int .i64 1]) ∧ Below w.heap.size w w' := by
  have R1 : Hid (∀ w', Calls Tryz.prog 13 #[pv v h l b] w' fun e w1 => e = .returned (.bool false) ∧ Below w'.heap.size w' w1) := fun w' => hk ▸ rpright_c hp w'
  have K := nmb_start w v h l b u ah al
  clear hp hk
  go_enter Tryz.func39, Tryz.ntmps39
  go_wp2_with fail
  refine (R1.out _).mono ?_
  rintro e w1 ⟨rfl, hb⟩
  replace K := K.below hb
  have F := K.1
  simp only [Facts, CellsAt] at F
  clear hb R1
  obtain ⟨r0, r1, r2, r3, r4⟩ := K.2.1.1.two
  have B := K.bel
  clear K F
  go_wp2
  refine bodyPost_ret (v := .tuple #[nv 0 0, .int .i64 1]) (by simp [results, Tryz.results39, go_sem, World.cell?_setCell_same', World.cell?_setCell_other, *]) rfl ⟨rfl, by repeat (first | with_reducible exact Below.refl _ _ | with_reducible refine Below.drew ?_ | with_reducible refine Below.alloc ?_ (by first | omega | (simp <;> omega)) _ | with_reducible refine Below.setCell ?_ (by first | omega | (simp <;> omega)) _ | with_reducible refine Below.trans ?_ (Below.mono B (by first | omega | (simp <;> omega))))⟩

set_option maxRecDepth 100000 in
set_option maxHeartbeats 800000 in
theorem rnmb_out {v u : Bool} {h l b ah al : Int} {n a : Nat} (hp : IsNum h l n) (ha : IsNum ah al a) (hk : okP v n b = true) (hh : hasB v n b u a = false) (w : World) :
    Calls Tryz.prog 39 #[pv v h l b, av u ah al] w fun e w' => e = .returned (.tuple #[nv 0 0, .int .i64 12]) ∧ Below w.heap.size w w' := by
  have R1 : Hid (∀ w', Calls Tryz.prog 13 #[pv v h l b] w' fun e w1 => e = .returned (.bool true) ∧ Below w'.heap.size w' w1) := fun w' => hk ▸ rpright_c hp w'
  have H1 : Hid (∀ w', Calls Tryz.prog 79 #[pv v h l b, av u ah al] w' fun e w1 => e = .returned (.bool false) ∧ Below w'.heap.size w' w1) := fun w' => hh ▸ rhas_c hp ha w'
  have K := nmb_start w v h l b u ah al
  clear hp ha hk hh
  go_enter Tryz.func39, Tryz.ntmps39
  go_wp2_with fail
  refine (R1.out _).mono ?_
  rintro e w1 ⟨rfl, hb⟩
  replace K := K.below hb
  have F := K.1
  simp only [Facts, CellsAt] at F
  clear hb R1
  go_wp2_with fail
  refine (H1.out _).mono ?_
  rintro e w2 ⟨rfl, hb⟩
  replace K := K.below hb
  replace F := K.1
  simp only [Facts, CellsAt] at F
  clear hb H1
  obtain ⟨r0, r1, r2, r3, r4⟩ := K.2.1.1.two
  have B := K.bel
  clear K F
  go_wp2
  refine bodyPost_ret (v := .tuple #[nv 0 0, .int .i64 12]) (by simp [results, Tryz.results39, go_sem, World.cell?_setCell_same', World.cell?_setCell_other, *]) rfl ⟨rfl, by repeat (first | with_reducible exact Below.refl _ _ | with_reducible refine Below.drew ?_ | with_reducible refine Below.alloc ?_ (by first | omega | (simp <;> omega)) _ | with_reducible refine Below.setCell ?_ (by first | omega | (simp <;> omega)) _ | with_reducible refine Below.trans ?_ (Below.mono B (by first | omega | (simp <;> omega))))⟩

set_option maxRecDepth 100000 in
set_option maxHeartbeats 1600000 in
theorem rnmb_ok {v : Bool} {h l b ah al rh rl : Int} {n a : Nat} (hp : IsNum h l n) (ha : IsNum ah al a) (hh : hasB v n b v a = true) (hr : IsNum rh rl (a - n)) (w : World) :
    Calls Tryz.prog 39 #[pv v h l b, av v ah al] w fun e w' => e = .returned (.tuple #[nv rh rl, .int .i64 0]) ∧ Below w.heap.size w w' := by
  have hk := has_ok hh
  have R1 : Hid (∀ w', Calls Tryz.prog 13 #[pv v h l b] w' fun e w1 => e = .returned (.bool true) ∧ Below w'.heap.size w' w1) := fun w' => hk ▸ rpright_c hp w'
  have H1 : Hid (∀ w', Calls Tryz.prog 79 #[pv v h l b, av v ah al] w' fun e w1 => e = .returned (.bool true) ∧ Below w'.heap.size w' w1) := fun w' => hh ▸ rhas_c hp ha w'
  obtain ⟨W, hW⟩ := width_nat4 v
  obtain ⟨op, b0, b1⟩ := fitsB_parts (okP_parts hk).1
  obtain ⟨B, hB⟩ : ∃ B : Nat, b = (B : Int) := ⟨b.toNat, by omega⟩
  have hW2 := width_le v
  have cv := piece_num (v := v) (n := n) (m := a) hW (B := B) (C := W) (by omega) (by omega) (by rw [← hB]; exact (has_parts hh).2.2)
  have e0 : numN v n (W : Nat) a = a - n := by
    unfold numN behindP; rw [hW, Int.sub_self]; simp
  have RO : Hid (∀ w', Calls Tryz.prog 59 #[av v ah al] w' fun e w1 => ∃ g o cap N, e = .returned (.slice (some ⟨g, 0, none⟩) W cap) ∧ (∀ W', (Instr.sliceAt 77 (.slice (some ⟨g, 0, none⟩) W cap) (some (.int .i64 b)) none none).run Tryz.prog W' = .ok (.slice (some ⟨g, o, none⟩) N (cap - B)) W') ∧ Hid (Calls Tryz.prog 78 #[.slice (some ⟨g, o, none⟩) N (cap - B)] w1 fun e w2 => e = .returned (nv rh rl) ∧ Below w1.heap.size w1 w2) ∧ Below w'.heap.size w' w1) := fun w' => by
    refine (row_any hW ha w').mono ?_
    rintro e w1 ⟨g, cap, rfl, hcap, hm, hRw, hb⟩
    have cells (o : Nat) (ho : o = B ∨ W - B = 0) : ∀ i, i < W - B → w1.cell? ⟨g, o + i, none⟩ = some (.int .i64 ((bitN (a / 2 ^ (W - W) % 2 ^ (W - B)) (W - B - 1 - i) : Nat) : Int)) := by
      intro i hi
      obtain rfl : o = B := by omega
      rw [piece_bits (by omega) (by omega) hi]
      exact hRw.2.1 (o + i) (by omega)
    have numc (o : Nat) (ho : o = B ∨ W - B = 0) := num4_is (N := W - B) (by omega) (Nat.mod_lt _ (pow_pos2 _)) (hr.cast (by rw [cv, e0])) g o (cap - B) w1 hRw.1 (cells o ho)
    by_cases hcq : cap = B
    · refine ⟨g, 0, cap, W - B, rfl, fun W' => ?_, numc 0 (by omega), hb⟩
      have q1 : W ≤ B := by omega
      have q2 : B ≤ W := by omega
      clear numc cells
      subst hB
      go_simp
      try (intro hx; omega)
    · refine ⟨g, B, cap, W - B, rfl, fun W' => ?_, numc B (by omega), hb⟩
      have q1 : W ≤ cap := by omega
      have q2 : B ≤ W := by omega
      clear numc cells
      subst hB
      go_simp
      try (intro hx; omega)
  have K := nmb_start w v h l b v ah al
  clear hp ha hk hh hr op b0 b1 hW2 cv hW hB e0
  go_enter Tryz.func39, Tryz.ntmps39
  go_wp2_with fail
  refine (R1.out _).mono ?_
  rintro e w1 ⟨rfl, hb⟩
  replace K := K.below hb
  have F := K.1
  simp only [Facts, CellsAt] at F
  clear hb R1
  go_wp2_with fail
  refine (H1.out _).mono ?_
  rintro e w3 ⟨rfl, hb⟩
  replace K := K.below hb
  replace F := K.1
  simp only [Facts, CellsAt] at F
  clear hb H1
  have R0 : Kn w [(w.heap.size + 1, [.bool v, .int .u64 ah, .int .u64 al], 26), (w.heap.size, [.bool v, .int .u64 h, .int .u64 l, .int .i64 b], 28)] w3 := K.tail
  have N0 := K.2.1.1
  clear K F
  go_wp2_with fail
  refine wp_region_held_drew (S := (Kn w [(w.heap.size + 1, [.bool v, .int .u64 ah, .int .u64 al], 26), (w.heap.size, [.bool v, .int .u64 h, .int .u64 l, .int .i64 b], 28)])) (by kernel_rfl) ?hS200 (fun hHeld => ?rest200)
  case hS200 => (first | with_reducible exact R0.drew | with_reducible exact hHeld.below hb4 | with_reducible exact hHeld.below hb5 | exact hHeld.far2 (by simp only [Off]; repeat' (first | exact trivial | refine And.intro ?_ ?_ | omega)) (by omega) _ _)
  refine wpAnyH_take (i := 0) (oi := _) (v := ?v201) (List.getElem?_toArray.trans rfl) (by kernel_rfl) (by kernel_rfl) (by kernel_rfl) (fun _ _ _ h => h) (Or.inl ⟨by rfl, ?hy201⟩) (by assumption) ?rest201
  case hy201 => (intro wq hSw; (try simp only [Two, Kn, Facts, CellsAt] at hSw); go_simp; try with_reducible rfl)
  try simp only [Act.put, List.setIfInBounds_toArray, List.set_cons_zero, List.set_cons_succ]
  refine wpAnyH_take (i := 2) (oi := _) (v := ?v202) (List.getElem?_toArray.trans rfl) (by kernel_rfl) (by kernel_rfl) (by kernel_rfl) (fun _ _ _ h => h) (Or.inl ⟨by rfl, ?hy202⟩) (by assumption) ?rest202
  case hy202 => (intro wq hSw; (try simp only [Two, Kn, Facts, CellsAt] at hSw); go_simp; try with_reducible rfl)
  try simp only [Act.put, List.setIfInBounds_toArray, List.set_cons_zero, List.set_cons_succ]
  refine wpAnyH_take (i := 3) (oi := _) (v := ?v203) (List.getElem?_toArray.trans rfl) (by kernel_rfl) (by kernel_rfl) (by kernel_rfl) (fun _ _ _ h => h) (Or.inl ⟨by rfl, ?hy203⟩) (by assumption) ?rest203
  case hy203 => (intro wq hSw; (try simp only [Two, Kn, Facts, CellsAt] at hSw); go_simp; try with_reducible rfl)
  try simp only [Act.put, List.setIfInBounds_toArray, List.set_cons_zero, List.set_cons_succ]
  refine wpAnyH_ready (rs := [1]) (by kernel_rfl) (by simp) ?rdy204
  refine AllReadyH.cons (List.getElem?_toArray.trans rfl) (fun K hK => ?stp204) AllReadyH.nil
  go_simp
  go_wp2_with fail
  (refine (RO.out _).mono ?_; rintro e w4 ⟨g, o, cap, N, rfl, sl, NU, hb4⟩)
  go_wp2_with fail
  refine hK.out _ _ ?hSn204 (fun hHeld2 => ?rest204)
  case hSn204 => (first | with_reducible exact R0.drew | with_reducible exact hHeld.below hb4 | with_reducible exact hHeld.below hb5 | exact hHeld.far2 (by simp only [Off]; repeat' (first | exact trivial | refine And.intro ?_ ?_ | omega)) (by omega) _ _)
  clear hK K hHeld
  have hHeld := hHeld2
  clear hHeld2
  try simp only [Act.put, List.setIfInBounds_toArray, List.set_cons_zero, List.set_cons_succ]
  refine wpAnyH_take (i := 4) (oi := _) (v := ?v205) (List.getElem?_toArray.trans rfl) (by kernel_rfl) (by kernel_rfl) (by kernel_rfl) (fun _ _ _ h => h) (Or.inl ⟨by rfl, ?hy205⟩) (by assumption) ?rest205
  case hy205 => (intro wq hSw; (try simp only [Two, Kn, Facts, CellsAt] at hSw); go_simp; try with_reducible rfl)
  try simp only [Act.put, List.setIfInBounds_toArray, List.set_cons_zero, List.set_cons_succ]
  refine wpAnyH_ready (rs := [5]) (by kernel_rfl) (by simp) ?rdy206
  refine AllReadyH.cons (List.getElem?_toArray.trans rfl) (fun K hK => ?stp206) AllReadyH.nil
  go_simp
  go_wp2_with fail
  (refine NU.out.mono ?_; rintro e w5 ⟨rfl, hb5⟩; have B5 := (hHeld.below hb5).bel; obtain ⟨r0, r1, r2, r3, r4⟩ := ((N0.via hb4 rfl).below hb5).two)
  go_wp2_with fail
  refine hK.out _ _ ?hSn206 (fun hHeld2 => ?rest206)
  case hSn206 => (first | with_reducible exact R0.drew | with_reducible exact hHeld.below hb4 | with_reducible exact hHeld.below hb5 | exact hHeld.far2 (by simp only [Off]; repeat' (first | exact trivial | refine And.intro ?_ ?_ | omega)) (by omega) _ _)
  clear hK K hHeld
  have hHeld := hHeld2
  clear hHeld2
  try simp only [Act.put, List.setIfInBounds_toArray, List.set_cons_zero, List.set_cons_succ]
  refine wpAnyH_ready (rs := [6]) (by kernel_rfl) (by simp) ?rdy207
  refine AllReadyH.cons (List.getElem?_toArray.trans rfl) (fun K hK => ?stp207) AllReadyH.nil
  go_simp
  go_wp2_with fail
  skip
  go_wp2_with fail
  refine hK.out _ _ ?hSn207 (fun hHeld2 => ?rest207)
  case hSn207 => (first | with_reducible exact R0.drew | with_reducible exact hHeld.below hb4 | with_reducible exact hHeld.below hb5 | exact hHeld.far2 (by simp only [Off]; repeat' (first | exact trivial | refine And.intro ?_ ?_ | omega)) (by omega) _ _)
  clear hK K hHeld
  have hHeld := hHeld2
  clear hHeld2
  try simp only [Act.put, List.setIfInBounds_toArray, List.set_cons_zero, List.set_cons_succ]
  refine wpAnyH_take (i := 7) (oi := _) (v := ?v208) (List.getElem?_toArray.trans rfl) (by kernel_rfl) (by kernel_rfl) (by kernel_rfl) (fun _ _ _ h => h) (Or.inl ⟨by rfl, ?hy208⟩) (by assumption) ?rest208
  case hy208 => (intro wq hSw; (try simp only [Two, Kn, Facts, CellsAt] at hSw); go_simp; try with_reducible rfl)
  try simp only [Act.put, List.setIfInBounds_toArray, List.set_cons_zero, List.set_cons_succ]
  refine wpAnyH_done (by kernel_rfl) ?fin200 _
  clear hHeld hb4 hb5 R0 N0 RO NU sl
  go_wp2
  refine bodyPost_ret (v := .tuple #[nv rh rl, .int .i64 0]) (by simp [results, Tryz.results39, go_sem, World.cell?_setCell_same', World.cell?_setCell_other, *]) rfl ⟨rfl, by repeat (first | with_reducible exact Below.refl _ _ | with_reducible refine Below.drew ?_ | with_reducible refine Below.alloc ?_ (by first | omega | (simp <;> omega)) _ | with_reducible refine Below.setCell ?_ (by first | omega | (simp <;> omega)) _ | with_reducible refine Below.trans ?_ (Below.mono B5 (by first | omega | (simp <;> omega))))⟩

set_option maxRecDepth 100000 in
set_option maxHeartbeats 1600000 in
theorem host_any {v rv : Bool} {h l b ih il rh rl rb ec W : Int} (hW : widthA v = W) (BK : Hid (∀ w', Calls Tryz.prog 32 #[pv v h l b, .int .i64 W, nv ih il] w' fun e w1 => e = .returned (.tuple #[pv rv rh rl rb, .int .i64 ec]) ∧ Below w'.heap.size w' w1)) (w : World) :
    Calls Tryz.prog 35 #[pv v h l b, nv ih il] w fun e w' => e = .returned (.tuple #[av rv rh rl, .int .i64 ec]) ∧ Below w.heap.size w w' := by
  have CW : Hid (∀ w', Calls Tryz.prog 19 #[av v h l] w' fun e w1 => e = .returned (.int .i64 W) ∧ Below w'.heap.size w' w1) := fun w' => width_lit v W hW h l w'
  have R0 : Kn w [(w.heap.size + 1 + 1, [.bool false, .int .u64 0, .int .u64 0], 26), (w.heap.size + 1, [.int .u64 ih, .int .u64 il], 24), (w.heap.size, [.bool v, .int .u64 h, .int .u64 l, .int .i64 b], 28)] (((w.alloc (.cells #[.bool v, .int .u64 h, .int .u64 l, .int .i64 b] 28)).alloc (.cells #[.int .u64 ih, .int .u64 il] 24)).alloc (.cells #[.bool false, .int .u64 0, .int .u64 0] 26)) := (((Kn.nil w).push rfl).push (by simp)).push (by simp)
  obtain ⟨w0, hw0⟩ : ∃ w0, w0 = ((w.alloc (.cells #[.bool v, .int .u64 h, .int .u64 l, .int .i64 b] 28)).alloc (.cells #[.int .u64 ih, .int .u64 il] 24)).alloc (.cells #[.bool false, .int .u64 0, .int .u64 0] 26) := ⟨_, rfl⟩
  rw [← hw0] at R0
  have LT := R0.lts
  simp only [Lts] at LT
  have hs0 := R0.bel.size
  clear hW
  go_enter Tryz.func35, Tryz.ntmps35
  go_upto_region 1 with fail
  rw [← hw0]
  clear hw0
  go_cut [6, 7] (fun p t wc => ∃ X : Nat, p = .pointer (some ⟨X, 0, none⟩) ∧ t = .int .i64 ec ∧ w.heap.size + 1 + 1 < X ∧ Blk wc X #[.bool rv, .int .u64 rh, .int .u64 rl, .int .i64 rb] 28 ∧ Kn w [(w.heap.size + 1 + 1, [.bool false, .int .u64 0, .int .u64 0], 26), (w.heap.size + 1, [.int .u64 ih, .int .u64 il], 24), (w.heap.size, [.bool v, .int .u64 h, .int .u64 l, .int .i64 b], 28)] wc)
  case first =>
    refine wp_region_held_drew (S := (Kn w [(w.heap.size + 1 + 1, [.bool false, .int .u64 0, .int .u64 0], 26), (w.heap.size + 1, [.int .u64 ih, .int .u64 il], 24), (w.heap.size, [.bool v, .int .u64 h, .int .u64 l, .int .i64 b], 28)])) (by kernel_rfl) ?hS5001 (fun hHeld => ?rest5001)
    case hS5001 => (first | with_reducible exact R0.drew | with_reducible exact (R0.alloc _).drew | with_reducible exact hHeld.below hb4 | with_reducible exact hHeld.below hb5 | with_reducible exact hHeld.alloc _ | with_reducible exact K5.alloc _ | with_reducible exact hHeld.far4 (by simp only [Off]; repeat' (first | exact trivial | refine And.intro ?_ ?_ | omega)) (by omega) _ _ _ _ | with_reducible exact K5.far4 (by simp only [Off]; repeat' (first | exact trivial | refine And.intro ?_ ?_ | omega)) (by omega) _ _ _ _ | with_reducible exact (K5.alloc _).far4 (by simp only [Off]; repeat' (first | exact trivial | refine And.intro ?_ ?_ | omega)) (by omega) _ _ _ _)
    refine wpAnyH_take (i := 0) (oi := _) (v := ?v5002) (List.getElem?_toArray.trans rfl) (by kernel_rfl) (by kernel_rfl) (by kernel_rfl) (fun _ _ _ h => h) (Or.inl ⟨by rfl, ?hy5002⟩) (by assumption) ?rest5002
    case hy5002 => (intro wq hSw; (try simp only [Two, Kn, Facts, CellsAt] at hSw); go_simp; try with_reducible rfl)
    try simp only [Act.put, List.setIfInBounds_toArray, List.set_cons_zero, List.set_cons_succ]
    refine wpAnyH_take (i := 1) (oi := _) (v := ?v5003) (List.getElem?_toArray.trans rfl) (by kernel_rfl) (by kernel_rfl) (by kernel_rfl) (fun _ _ _ h => h) (Or.inl ⟨by rfl, ?hy5003⟩) (by assumption) ?rest5003
    case hy5003 => (intro wq hSw; (try simp only [Two, Kn, Facts, CellsAt] at hSw); go_simp; try with_reducible rfl)
    try simp only [Act.put, List.setIfInBounds_toArray, List.set_cons_zero, List.set_cons_succ]
    refine wpAnyH_take (i := 2) (oi := _) (v := ?v5004) (List.getElem?_toArray.trans rfl) (by kernel_rfl) (by kernel_rfl) (by kernel_rfl) (fun _ _ _ h => h) (Or.inl ⟨by rfl, ?hy5004⟩) (by assumption) ?rest5004
    case hy5004 => (intro wq hSw; (try simp only [Two, Kn, Facts, CellsAt] at hSw); go_simp; try with_reducible rfl)
    try simp only [Act.put, List.setIfInBounds_toArray, List.set_cons_zero, List.set_cons_succ]
    refine wpAnyH_take (i := 4) (oi := _) (v := ?v5005) (List.getElem?_toArray.trans rfl) (by kernel_rfl) (by kernel_rfl) (by kernel_rfl) (fun _ _ _ h => h) (Or.inl ⟨by rfl, ?hy5005⟩) (by assumption) ?rest5005
    case hy5005 => (intro wq hSw; (try simp only [Two, Kn, Facts, CellsAt] at hSw); go_simp; try with_reducible rfl)
    try simp only [Act.put, List.setIfInBounds_toArray, List.set_cons_zero, List.set_cons_succ]
    refine wpAnyH_ready (rs := [3, 9]) (by kernel_rfl) (by simp) ?rdy5006
    refine (AllReadyH.cons (List.getElem?_toArray.trans rfl) (fun K hK => ?stp5006_3) (AllReadyH.cons (List.getElem?_toArray.trans rfl) (fun K hK => ?stp5006_9) AllReadyH.nil))
    case stp5006_3 =>
      go_simp
      go_wp2_with fail
      (refine (CW.out _).mono ?_; rintro e w4 ⟨rfl, hb4⟩; have s4 : w0.heap.size ≤ w4.heap.size := (by have := hb4.size; first | exact this | (simp at this; omega)); first | (have U4 : Blk w4 w0.heap.size #[.bool false, .int .u64 0, .int .u64 0, .int .i64 0] 28 := Blk.via hb4 (Blk.new w0 #[.bool false, .int .u64 0, .int .u64 0, .int .i64 0] 28) rfl; obtain ⟨u0, u1, u2, u3, u4, u5, u6, u7, u8⟩ := U4.four) | skip)
      go_wp2_with fail
      refine hK.out _ _ ?hSn5007 (fun hHeld2 => ?rest5007)
      case hSn5007 => (first | with_reducible exact R0.drew | with_reducible exact (R0.alloc _).drew | with_reducible exact hHeld.below hb4 | with_reducible exact hHeld.below hb5 | with_reducible exact hHeld.alloc _ | with_reducible exact K5.alloc _ | with_reducible exact hHeld.far4 (by simp only [Off]; repeat' (first | exact trivial | refine And.intro ?_ ?_ | omega)) (by omega) _ _ _ _ | with_reducible exact K5.far4 (by simp only [Off]; repeat' (first | exact trivial | refine And.intro ?_ ?_ | omega)) (by omega) _ _ _ _ | with_reducible exact (K5.alloc _).far4 (by simp only [Off]; repeat' (first | exact trivial | refine And.intro ?_ ?_ | omega)) (by omega) _ _ _ _)
      clear hK K hHeld
      have hHeld := hHeld2
      clear hHeld2
      try simp only [Act.put, List.setIfInBounds_toArray, List.set_cons_zero, List.set_cons_succ]
      refine wpAnyH_ready (rs := [5, 9]) (by kernel_rfl) (by simp) ?rdy5008
      refine (AllReadyH.cons (List.getElem?_toArray.trans rfl) (fun K hK => ?stp5008_5) (AllReadyH.cons (List.getElem?_toArray.trans rfl) (fun K hK => ?stp5008_9) AllReadyH.nil))
      case stp5008_5 =>
        go_simp
        go_wp2_with fail
        (refine (BK.out _).mono ?_; rintro e w5 ⟨rfl, hb5⟩; have K5 := hHeld.below hb5; have s5 : w4.heap.size ≤ w5.heap.size := (by have := hb5.size; first | exact this | (simp at this; omega)); first | (have U5 := U4.below hb5; obtain ⟨a0, a1, a2, a3, a4, a5, a6, a7, a8⟩ := U5.four) | (have U5 : Blk w5 w4.heap.size #[.bool false, .int .u64 0, .int .u64 0, .int .i64 0] 28 := Blk.via hb5 (Blk.new w4 #[.bool false, .int .u64 0, .int .u64 0, .int .i64 0] 28) rfl; obtain ⟨p0, p1, p2, p3, p4, p5, p6, p7, p8⟩ := U5.four) | skip)
        go_wp2_with fail
        refine hK.out _ _ ?hSn5009 (fun hHeld2 => ?rest5009)
        case hSn5009 => (first | with_reducible exact R0.drew | with_reducible exact (R0.alloc _).drew | with_reducible exact hHeld.below hb4 | with_reducible exact hHeld.below hb5 | with_reducible exact hHeld.alloc _ | with_reducible exact K5.alloc _ | with_reducible exact hHeld.far4 (by simp only [Off]; repeat' (first | exact trivial | refine And.intro ?_ ?_ | omega)) (by omega) _ _ _ _ | with_reducible exact K5.far4 (by simp only [Off]; repeat' (first | exact trivial | refine And.intro ?_ ?_ | omega)) (by omega) _ _ _ _ | with_reducible exact (K5.alloc _).far4 (by simp only [Off]; repeat' (first | exact trivial | refine And.intro ?_ ?_ | omega)) (by omega) _ _ _ _)
        clear hK K hHeld
        have hHeld := hHeld2
        clear hHeld2
        try simp only [Act.put, List.setIfInBounds_toArray, List.set_cons_zero, List.set_cons_succ]
        refine wpAnyH_take (i := 6) (oi := _) (v := ?v5010) (List.getElem?_toArray.trans rfl) (by kernel_rfl) (by kernel_rfl) (by kernel_rfl) (fun _ _ _ h => h) (Or.inl ⟨by rfl, ?hy5010⟩) (by assumption) ?rest5010
        case hy5010 => (intro wq hSw; (try simp only [Two, Kn, Facts, CellsAt] at hSw); go_simp; try with_reducible rfl)
        try simp only [Act.put, List.setIfInBounds_toArray, List.set_cons_zero, List.set_cons_succ]
        refine wpAnyH_take (i := 7) (oi := _) (v := ?v5011) (List.getElem?_toArray.trans rfl) (by kernel_rfl) (by kernel_rfl) (by kernel_rfl) (fun _ _ _ h => h) (Or.inl ⟨by rfl, ?hy5011⟩) (by assumption) ?rest5011
        case hy5011 => (intro wq hSw; (try simp only [Two, Kn, Facts, CellsAt] at hSw); go_simp; try with_reducible rfl)
        try simp only [Act.put, List.setIfInBounds_toArray, List.set_cons_zero, List.set_cons_succ]
        refine wpAnyH_take (i := 8) (oi := _) (v := ?v5012) (List.getElem?_toArray.trans rfl) (by kernel_rfl) (by kernel_rfl) (by kernel_rfl) (fun _ _ _ h => h) (Or.inl ⟨by rfl, ?hy5012⟩) (by assumption) ?rest5012
        case hy5012 => (intro wq hSw; (try simp only [Two, Kn, Facts, CellsAt] at hSw); go_simp; try with_reducible rfl)
        try simp only [Act.put, List.setIfInBounds_toArray, List.set_cons_zero, List.set_cons_succ]
        refine wpAnyH_ready (rs := [9]) (by kernel_rfl) (by simp) ?rdy5013
        refine (AllReadyH.cons (List.getElem?_toArray.trans rfl) (fun K hK => ?stp5013_9) AllReadyH.nil)
        case stp5013_9 =>
          go_simp
          go_wp2_with fail
          refine hK.out _ _ ?hSn5014 (fun hHeld2 => ?rest5014)
          case hSn5014 => (first | with_reducible exact R0.drew | with_reducible exact (R0.alloc _).drew | with_reducible exact hHeld.below hb4 | with_reducible exact hHeld.below hb5 | with_reducible exact hHeld.alloc _ | with_reducible exact K5.alloc _ | with_reducible exact hHeld.far4 (by simp only [Off]; repeat' (first | exact trivial | refine And.intro ?_ ?_ | omega)) (by omega) _ _ _ _ | with_reducible exact K5.far4 (by simp only [Off]; repeat' (first | exact trivial | refine And.intro ?_ ?_ | omega)) (by omega) _ _ _ _ | with_reducible exact (K5.alloc _).far4 (by simp only [Off]; repeat' (first | exact trivial | refine And.intro ?_ ?_ | omega)) (by omega) _ _ _ _)
          clear hK K hHeld
          have hHeld := hHeld2
          clear hHeld2
          try simp only [Act.put, List.setIfInBounds_toArray, List.set_cons_zero, List.set_cons_succ]
          refine wpAnyH_ready (rs := [10]) (by kernel_rfl) (by simp) ?rdy5015
          refine (AllReadyH.cons (List.getElem?_toArray.trans rfl) (fun K hK => ?stp5015_10) AllReadyH.nil)
          case stp5015_10 =>
            go_simp
            go_wp2_with fail
            refine hK.out _ _ ?hSn5016 (fun hHeld2 => ?rest5016)
            case hSn5016 => (first | with_reducible exact R0.drew | with_reducible exact (R0.alloc _).drew | with_reducible exact hHeld.below hb4 | with_reducible exact hHeld.below hb5 | with_reducible exact hHeld.alloc _ | with_reducible exact K5.alloc _ | with_reducible exact hHeld.far4 (by simp only [Off]; repeat' (first | exact trivial | refine And.intro ?_ ?_ | omega)) (by omega) _ _ _ _ | with_reducible exact K5.far4 (by simp only [Off]; repeat' (first | exact trivial | refine And.intro ?_ ?_ | omega)) (by omega) _ _ _ _ | with_reducible exact (K5.alloc _).far4 (by simp only [Off]; repeat' (first | exact trivial | refine And.intro ?_ ?_ | omega)) (by omega) _ _ _ _)
            clear hK K hHeld
            have hHeld := hHeld2
            clear hHeld2
            try simp only [Act.put, List.setIfInBounds_toArray, List.set_cons_zero, List.set_cons_succ]
            refine wpAnyH_take (i := 11) (oi := _) (v := ?v5017) (List.getElem?_toArray.trans rfl) (by kernel_rfl) (by kernel_rfl) (by kernel_rfl) (fun _ _ _ h => h) (Or.inl ⟨by rfl, ?hy5017⟩) (by assumption) ?rest5017
            case hy5017 => (intro wq hSw; (try simp only [Two, Kn, Facts, CellsAt] at hSw); go_simp; try with_reducible rfl)
            try simp only [Act.put, List.setIfInBounds_toArray, List.set_cons_zero, List.set_cons_succ]
            refine wpAnyH_done (by kernel_rfl) ?_ _
            go_wp2_with fail
            go_meet
            case rel => exact ⟨_, rfl, rfl, (by omega), (by repeat (first | with_reducible exact Blk.new _ _ _ | with_reducible exact U5 | with_reducible refine Blk.put4 (x := .bool false) (y := .int .u64 0) (z := .int .u64 0) (q := .int .i64 0) ?_ _ _ _ _)), hHeld⟩
      case stp5008_9 =>
        go_simp
        go_wp2_with fail
        refine hK.out _ _ ?hSn5018 (fun hHeld2 => ?rest5018)
        case hSn5018 => (first | with_reducible exact R0.drew | with_reducible exact (R0.alloc _).drew | with_reducible exact hHeld.below hb4 | with_reducible exact hHeld.below hb5 | with_reducible exact hHeld.alloc _ | with_reducible exact K5.alloc _ | with_reducible exact hHeld.far4 (by simp only [Off]; repeat' (first | exact trivial | refine And.intro ?_ ?_ | omega)) (by omega) _ _ _ _ | with_reducible exact K5.far4 (by simp only [Off]; repeat' (first | exact trivial | refine And.intro ?_ ?_ | omega)) (by omega) _ _ _ _ | with_reducible exact (K5.alloc _).far4 (by simp only [Off]; repeat' (first | exact trivial | refine And.intro ?_ ?_ | omega)) (by omega) _ _ _ _)
        clear hK K hHeld
        have hHeld := hHeld2
        clear hHeld2
        try simp only [Act.put, List.setIfInBounds_toArray, List.set_cons_zero, List.set_cons_succ]
        refine wpAnyH_ready (rs := [5]) (by kernel_rfl) (by simp) ?rdy5019
        refine (AllReadyH.cons (List.getElem?_toArray.trans rfl) (fun K hK => ?stp5019_5) AllReadyH.nil)
        case stp5019_5 =>
          go_simp
          go_wp2_with fail
          (refine (BK.out _).mono ?_; rintro e w5 ⟨rfl, hb5⟩; have K5 := hHeld.below hb5; have s5 : w4.heap.size ≤ w5.heap.size := (by have := hb5.size; first | exact this | (simp at this; omega)); first | (have U5 := U4.below hb5; obtain ⟨a0, a1, a2, a3, a4, a5, a6, a7, a8⟩ := U5.four) | (have U5 : Blk w5 w4.heap.size #[.bool false, .int .u64 0, .int .u64 0, .int .i64 0] 28 := Blk.via hb5 (Blk.new w4 #[.bool false, .int .u64 0, .int .u64 0, .int .i64 0] 28) rfl; obtain ⟨p0, p1, p2, p3, p4, p5, p6, p7, p8⟩ := U5.four) | skip)
          go_wp2_with fail
          refine hK.out _ _ ?hSn5020 (fun hHeld2 => ?rest5020)
          case hSn5020 => (first | with_reducible exact R0.drew | with_reducible exact (R0.alloc _).drew | with_reducible exact hHeld.below hb4 | with_reducible exact hHeld.below hb5 | with_reducible exact hHeld.alloc _ | with_reducible exact K5.alloc _ | with_reducible exact hHeld.far4 (by simp only [Off]; repeat' (first | exact trivial | refine And.intro ?_ ?_ | omega)) (by omega) _ _ _ _ | with_reducible exact K5.far4 (by simp only [Off]; repeat' (first | exact trivial | refine And.intro ?_ ?_ | omega)) (by omega) _ _ _ _ | with_reducible exact (K5.alloc _).far4 (by simp only [Off]; repeat' (first | exact trivial | refine And.intro ?_ ?_ | omega)) (by omega) _ _ _ _)
          clear hK K hHeld
          have hHeld := hHeld2
          clear hHeld2
          try simp only [Act.put, List.setIfInBounds_toArray, List.set_cons_zero, List.set_cons_succ]
          refine wpAnyH_take (i := 6) (oi := _) (v := ?v5021) (List.getElem?_toArray.trans rfl) (by kernel_rfl) (by kernel_rfl) (by kernel_rfl) (fun _ _ _ h => h) (Or.inl ⟨by rfl, ?hy5021⟩) (by assumption) ?rest5021
          case hy5021 => (intro wq hSw; (try simp only [Two, Kn, Facts, CellsAt] at hSw); go_simp; try with_reducible rfl)
          try simp only [Act.put, List.setIfInBounds_toArray, List.set_cons_zero, List.set_cons_succ]
          refine wpAnyH_take (i := 7) (oi := _) (v := ?v5022) (List.getElem?_toArray.trans rfl) (by kernel_rfl) (by kernel_rfl) (by kernel_rfl) (fun _ _ _ h => h) (Or.inl ⟨by rfl, ?hy5022⟩) (by assumption) ?rest5022
          case hy5022 => (intro wq hSw; (try simp only [Two, Kn, Facts, CellsAt] at hSw); go_simp; try with_reducible rfl)
          try simp only [Act.put, List.setIfInBounds_toArray, List.set_cons_zero, List.set_cons_succ]
          refine wpAnyH_take (i := 8) (oi := _) (v := ?v5023) (List.getElem?_toArray.trans rfl) (by kernel_rfl) (by kernel_rfl) (by kernel_rfl) (fun _ _ _ h => h) (Or.inl ⟨by rfl, ?hy5023⟩) (by assumption) ?rest5023
          case hy5023 => (intro wq hSw; (try simp only [Two, Kn, Facts, CellsAt] at hSw); go_simp; try with_reducible rfl)
          try simp only [Act.put, List.setIfInBounds_toArray, List.set_cons_zero, List.set_cons_succ]
          refine wpAnyH_ready (rs := [10]) (by kernel_rfl) (by simp) ?rdy5024
          refine (AllReadyH.cons (List.getElem?_toArray.trans rfl) (fun K hK => ?stp5024_10) AllReadyH.nil)
          case stp5024_10 =>
            go_simp
            go_wp2_with fail
            refine hK.out _ _ ?hSn5025 (fun hHeld2 => ?rest5025)
            case hSn5025 => (first | with_reducible exact R0.drew | with_reducible exact (R0.alloc _).drew | with_reducible exact hHeld.below hb4 | with_reducible exact hHeld.below hb5 | with_reducible exact hHeld.alloc _ | with_reducible exact K5.alloc _ | with_reducible exact hHeld.far4 (by simp only [Off]; repeat' (first | exact trivial | refine And.intro ?_ ?_ | omega)) (by omega) _ _ _ _ | with_reducible exact K5.far4 (by simp only [Off]; repeat' (first | exact trivial | refine And.intro ?_ ?_ | omega)) (by omega) _ _ _ _ | with_reducible exact (K5.alloc _).far4 (by simp only [Off]; repeat' (first | exact trivial | refine And.intro ?_ ?_ | omega)) (by omega) _ _ _ _)
            clear hK K hHeld
            have hHeld := hHeld2
            clear hHeld2
            try simp only [Act.put, List.setIfInBounds_toArray, List.set_cons_zero, List.set_cons_succ]
            refine wpAnyH_take (i := 11) (oi := _) (v := ?v5026) (List.getElem?_toArray.trans rfl) (by kernel_rfl) (by kernel_rfl) (by kernel_rfl) (fun _ _ _ h => h) (Or.inl ⟨by rfl, ?hy5026⟩) (by assumption) ?rest5026
            case hy5026 => (intro wq hSw; (try simp only [Two, Kn, Facts, CellsAt] at hSw); go_simp; try with_reducible rfl)
            try simp only [Act.put, List.setIfInBounds_toArray, List.set_cons_zero, List.set_cons_succ]
            refine wpAnyH_done (by kernel_rfl) ?_ _
            go_wp2_with fail
            go_meet
            case rel => exact ⟨_, rfl, rfl, (by omega), (by repeat (first | with_reducible exact Blk.new _ _ _ | with_reducible exact U5 | with_reducible refine Blk.put4 (x := .bool false) (y := .int .u64 0) (z := .int .u64 0) (q := .int .i64 0) ?_ _ _ _ _)), hHeld⟩
    case stp5006_9 =>
      go_simp
      go_wp2_with fail
      refine hK.out _ _ ?hSn5027 (fun hHeld2 => ?rest5027)
      case hSn5027 => (first | with_reducible exact R0.drew | with_reducible exact (R0.alloc _).drew | with_reducible exact hHeld.below hb4 | with_reducible exact hHeld.below hb5 | with_reducible exact hHeld.alloc _ | with_reducible exact K5.alloc _ | with_reducible exact hHeld.far4 (by simp only [Off]; repeat' (first | exact trivial | refine And.intro ?_ ?_ | omega)) (by omega) _ _ _ _ | with_reducible exact K5.far4 (by simp only [Off]; repeat' (first | exact trivial | refine And.intro ?_ ?_ | omega)) (by omega) _ _ _ _ | with_reducible exact (K5.alloc _).far4 (by simp only [Off]; repeat' (first | exact trivial | refine And.intro ?_ ?_ | omega)) (by omega) _ _ _ _)
      clear hK K hHeld
      have hHeld := hHeld2
      clear hHeld2
      try simp only [Act.put, List.setIfInBounds_toArray, List.set_cons_zero, List.set_cons_succ]
      refine wpAnyH_ready (rs := [3]) (by kernel_rfl) (by simp) ?rdy5028
      refine (AllReadyH.cons (List.getElem?_toArray.trans rfl) (fun K hK => ?stp5028_3) AllReadyH.nil)
      case stp5028_3 =>
        go_simp
        go_wp2_with fail
        (refine (CW.out _).mono ?_; rintro e w4 ⟨rfl, hb4⟩; have s4 : w0.heap.size ≤ w4.heap.size := (by have := hb4.size; first | exact this | (simp at this; omega)); first | (have U4 : Blk w4 w0.heap.size #[.bool false, .int .u64 0, .int .u64 0, .int .i64 0] 28 := Blk.via hb4 (Blk.new w0 #[.bool false, .int .u64 0, .int .u64 0, .int .i64 0] 28) rfl; obtain ⟨u0, u1, u2, u3, u4, u5, u6, u7, u8⟩ := U4.four) | skip)
        go_wp2_with fail
        refine hK.out _ _ ?hSn5029 (fun hHeld2 => ?rest5029)
        case hSn5029 => (first | with_reducible exact R0.drew | with_reducible exact (R0.alloc _).drew | with_reducible exact hHeld.below hb4 | with_reducible exact hHeld.below hb5 | with_reducible exact hHeld.alloc _ | with_reducible exact K5.alloc _ | with_reducible exact hHeld.far4 (by simp only [Off]; repeat' (first | exact trivial | refine And.intro ?_ ?_ | omega)) (by omega) _ _ _ _ | with_reducible exact K5.far4 (by simp only [Off]; repeat' (first | exact trivial | refine And.intro ?_ ?_ | omega)) (by omega) _ _ _ _ | with_reducible exact (K5.alloc _).far4 (by simp only [Off]; repeat' (first | exact trivial | refine And.intro ?_ ?_ | omega)) (by omega) _ _ _ _)
        clear hK K hHeld
        have hHeld := hHeld2
        clear hHeld2
        try simp only [Act.put, List.setIfInBounds_toArray, List.set_cons_zero, List.set_cons_succ]
        refine wpAnyH_ready (rs := [5]) (by kernel_rfl) (by simp) ?rdy5030
        refine (AllReadyH.cons (List.getElem?_toArray.trans rfl) (fun K hK => ?stp5030_5) AllReadyH.nil)
        case stp5030_5 =>
          go_simp
          go_wp2_with fail
          (refine (BK.out _).mono ?_; rintro e w5 ⟨rfl, hb5⟩; have K5 := hHeld.below hb5; have s5 : w4.heap.size ≤ w5.heap.size := (by have := hb5.size; first | exact this | (simp at this; omega)); first | (have U5 := U4.below hb5; obtain ⟨a0, a1, a2, a3, a4, a5, a6, a7, a8⟩ := U5.four) | (have U5 : Blk w5 w4.heap.size #[.bool false, .int .u64 0, .int .u64 0, .int .i64 0] 28 := Blk.via hb5 (Blk.new w4 #[.bool false, .int .u64 0, .int .u64 0, .int .i64 0] 28) rfl; obtain ⟨p0, p1, p2, p3, p4, p5, p6, p7, p8⟩ := U5.four) | skip)
          go_wp2_with fail
          refine hK.out _ _ ?hSn5031 (fun hHeld2 => ?rest5031)
          case hSn5031 => (first | with_reducible exact R0.drew | with_reducible exact (R0.alloc _).drew | with_reducible exact hHeld.below hb4 | with_reducible exact hHeld.below hb5 | with_reducible exact hHeld.alloc _ | with_reducible exact K5.alloc _ | with_reducible exact hHeld.far4 (by simp only [Off]; repeat' (first | exact trivial | refine And.intro ?_ ?_ | omega)) (by omega) _ _ _ _ | with_reducible exact K5.far4 (by simp only [Off]; repeat' (first | exact trivial | refine And.intro ?_ ?_ | omega)) (by omega) _ _ _ _ | with_reducible exact (K5.alloc _).far4 (by simp only [Off]; repeat' (first | exact trivial | refine And.intro ?_ ?_ | omega)) (by omega) _ _ _ _)
          clear hK K hHeld
          have hHeld := hHeld2
          clear hHeld2
          try simp only [Act.put, List.setIfInBounds_toArray, List.set_cons_zero, List.set_cons_succ]
          refine wpAnyH_take (i := 6) (oi := _) (v := ?v5032) (List.getElem?_toArray.trans rfl) (by kernel_rfl) (by kernel_rfl) (by kernel_rfl) (fun _ _ _ h => h) (Or.inl ⟨by rfl, ?hy5032⟩) (by assumption) ?rest5032
          case hy5032 => (intro wq hSw; (try simp only [Two, Kn, Facts, CellsAt] at hSw); go_simp; try with_reducible rfl)
          try simp only [Act.put, List.setIfInBounds_toArray, List.set_cons_zero, List.set_cons_succ]
          refine wpAnyH_take (i := 7) (oi := _) (v := ?v5033) (List.getElem?_toArray.trans rfl) (by kernel_rfl) (by kernel_rfl) (by kernel_rfl) (fun _ _ _ h => h) (Or.inl ⟨by rfl, ?hy5033⟩) (by assumption) ?rest5033
          case hy5033 => (intro wq hSw; (try simp only [Two, Kn, Facts, CellsAt] at hSw); go_simp; try with_reducible rfl)
          try simp only [Act.put, List.setIfInBounds_toArray, List.set_cons_zero, List.set_cons_succ]
          refine wpAnyH_take (i := 8) (oi := _) (v := ?v5034) (List.getElem?_toArray.trans rfl) (by kernel_rfl) (by kernel_rfl) (by kernel_rfl) (fun _ _ _ h => h) (Or.inl ⟨by rfl, ?hy5034⟩) (by assumption) ?rest5034
          case hy5034 => (intro wq hSw; (try simp only [Two, Kn, Facts, CellsAt] at hSw); go_simp; try with_reducible rfl)
          try simp only [Act.put, List.setIfInBounds_toArray, List.set_cons_zero, List.set_cons_succ]
          refine wpAnyH_ready (rs := [10]) (by kernel_rfl) (by simp) ?rdy5035
          refine (AllReadyH.cons (List.getElem?_toArray.trans rfl) (fun K hK => ?stp5035_10) AllReadyH.nil)
          case stp5035_10 =>
            go_simp
            go_wp2_with fail
            refine hK.out _ _ ?hSn5036 (fun hHeld2 => ?rest5036)
            case hSn5036 => (first | with_reducible exact R0.drew | with_reducible exact (R0.alloc _).drew | with_reducible exact hHeld.below hb4 | with_reducible exact hHeld.below hb5 | with_reducible exact hHeld.alloc _ | with_reducible exact K5.alloc _ | with_reducible exact hHeld.far4 (by simp only [Off]; repeat' (first | exact trivial | refine And.intro ?_ ?_ | omega)) (by omega) _ _ _ _ | with_reducible exact K5.far4 (by simp only [Off]; repeat' (first | exact trivial | refine And.intro ?_ ?_ | omega)) (by omega) _ _ _ _ | with_reducible exact (K5.alloc _).far4 (by simp only [Off]; repeat' (first | exact trivial | refine And.intro ?_ ?_ | omega)) (by omega) _ _ _ _)
            clear hK K hHeld
            have hHeld := hHeld2
            clear hHeld2
            try simp only [Act.put, List.setIfInBounds_toArray, List.set_cons_zero, List.set_cons_succ]
            refine wpAnyH_take (i := 11) (oi := _) (v := ?v5037) (List.getElem?_toArray.trans rfl) (by kernel_rfl) (by kernel_rfl) (by kernel_rfl) (fun _ _ _ h => h) (Or.inl ⟨by rfl, ?hy5037⟩) (by assumption) ?rest5037
            case hy5037 => (intro wq hSw; (try simp only [Two, Kn, Facts, CellsAt] at hSw); go_simp; try with_reducible rfl)
            try simp only [Act.put, List.setIfInBounds_toArray, List.set_cons_zero, List.set_cons_succ]
            refine wpAnyH_done (by kernel_rfl) ?_ _
            go_wp2_with fail
            go_meet
            case rel => exact ⟨_, rfl, rfl, (by omega), (by repeat (first | with_reducible exact Blk.new _ _ _ | with_reducible exact U5 | with_reducible refine Blk.put4 (x := .bool false) (y := .int .u64 0) (z := .int .u64 0) (q := .int .i64 0) ?_ _ _ _ _)), hHeld⟩
  case rest =>
    obtain ⟨X, rfl, rfl, hX, N, R⟩ := hcut
    obtain ⟨x0, x1, x2, x3, x4, x5, x6, x7, x8⟩ := N.four
    obtain ⟨r0, r1, r2, r3, r4, r5, r6⟩ := R.2.1.1.three
    have B := R.bel
    have ne1 : ¬ X = w.heap.size + 1 + 1 := by omega
    clear R0 R N LT hs0 CW BK
    go_wp2
    refine bodyPost_ret (v := .tuple #[av rv rh rl, .int .i64 ec]) (by simp [results, Tryz.results35, go_sem, World.cell?_setCell_same', World.cell?_setCell_other, *]) rfl ⟨rfl, by repeat (first | with_reducible exact Below.refl _ _ | with_reducible refine Below.drew ?_ | with_reducible refine Below.alloc ?_ (by first | omega | (simp <;> omega)) _ | with_reducible refine Below.setCell ?_ (by first | omega | (simp <;> omega)) _ | with_reducible refine Below.trans ?_ (Below.mono B (by first | omega | (simp <;> omega))))⟩
end Go.Proofs.YtmhnfgfdggjdhaaGreatDoor

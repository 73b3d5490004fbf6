/-
  Texts PoM, Po1, Po2, Po3, Po4, Po5, Po6, PoR, PoR2, PoR3 of the proof.
-/
import Derived.Test.YtgbpnekinbdadaaGreatDoorPQ37
import Derived.Test.YtgbpnekinbdadaaGreatDoorPQ35
import Derived.Test.YtgbpnekinbdadaaGreatDoorPQ0

namespace Go.Proofs.YtgbpnekinbdadaaGreatDoor
open Go.ChangeShapes Go.WideShapes Go.ChangeAt Go.RowKit
set_option linter.unusedVariables false
set_option linter.unusedSimpArgs false

/-- How many addresses a pool of a prefix looks after; 0: it may not be. -/
def szP (v : Bool) (n : Nat) (b : Int) : Nat := if okP v n b = true then (if behindP v b ≤ 16 then 2 ^ behindP v b else 65536) else 0

/-- Is the last one kept? -/
def lkP (v : Bool) (b : Int) : Bool := !v && decide (behindP v b ≤ 16)

/-- Which are kept. -/
def kpF (lk : Bool) (N : Nat) : Nat → Bool := fun p => decide (p = 0) || (lk && decide (p = N - 1))

theorem szP_le {v : Bool} {n : Nat} {b : Int} : szP v n b ≤ 65536 := by
 unfold szP
 split
 ·split
  ·rename_i h
   have := Nat.pow_le_pow_right (n := 2) (by decide) h
   rw [show (2 : Nat) ^ 16 = 65536 by decide] at this
   exact this
  ·omega
 ·omega

theorem szP_ok {v : Bool} {n : Nat} {b : Int} (h : 0 < szP v n b) : okP v n b = true := by
 unfold szP at h
 split at h
 ·assumption
 ·omega

theorem szP_pow {v : Bool} {n : Nat} {b : Int} : szP v n b ≤ 2 ^ behindP v b := by
 unfold szP
 split
 ·split
  ·exact Nat.le_refl _
  ·rename_i h
   have := Nat.pow_le_pow_right (n := 2) (by decide) (show 17 ≤ behindP v b by omega)
   rw [show (2 : Nat) ^ 17 = 131072 by decide] at this
   omega
 ·exact Nat.zero_le _

/-- The last one of a pool is the prefix's last one. -/
theorem last_host {n : Nat} {b : Int} (ok : okP false n b = true) (h0 : 0 < szP false n b) : (n + (szP false n b - 1) = lastN false n b) ↔ lkP false b = true := by
 unfold lkP lastN
 have p := szP_pow (v := false) (n := n) (b := b)
 simp only [Bool.not_false, Bool.true_and, decide_eq_true_eq]
 constructor
 ·intro e
  apply Classical.byContradiction
  intro c
  have : szP false n b = 65536 := by unfold szP; rw [if_pos ok, if_neg c]
  have q := Nat.pow_le_pow_right (n := 2) (by decide) (show 17 ≤ behindP false b by omega)
  rw [show (2 : Nat) ^ 17 = 131072 by decide] at q
  omega
 ·intro e
  have : szP false n b = 2 ^ behindP false b := by unfold szP; rw [if_pos ok, if_pos e]
  omega

/-- The number of an address that may be given. -/
def nmP (v : Bool) (n : Nat) (b : Int) (s : Bool) (a : Nat) : Option Nat := if hasB v n b s a = true ∧ a - n < szP v n b ∧ kpF (lkP v b) (szP v n b) (a - n) = false then some (a - n) else none

theorem nmP_some {v : Bool} {n : Nat} {b : Int} {s : Bool} {a i : Nat} (h : nmP v n b s a = some i) : hasB v n b s a = true ∧ i = a - n ∧ i < szP v n b ∧ kpF (lkP v b) (szP v n b) i = false := by
 unfold nmP at h
 split at h
 ·rename_i c
  obtain rfl := Option.some.inj h
  exact ⟨c.1, rfl, c.2.1, c.2.2⟩
 ·cases h

/-- The host of a number is an address of the prefix. -/
theorem host_blk {v : Bool} {n : Nat} {b : Int} {i : Nat} {W : Int} (hW : widthA v = W) (ok : okP v n b = true) (hi : i < szP v n b) : cutB v n b W = true ∧ i < 2 ^ (W - b).toNat ∧ blkN v n W i = n + i := by
 obtain ⟨_, b0, b1⟩ := fitsB_parts (okP_parts ok).1
 have p := szP_pow (v := v) (n := n) (b := b)
 refine ⟨?_, ?_, ?_⟩
 ·unfold cutB
  rw [ok, decide_eq_true (by omega : b ≤ W), decide_eq_true (by omega : W ≤ widthA v)]
  rfl
 ·have : behindP v b = (W - b).toNat := by unfold behindP; rw [hW]
  rw [← this]
  omega
 ·have z : behindP v W = 0 := by unfold behindP; omega
  unfold blkN
  rw [z]
  omega

theorem host_lt {v : Bool} {n : Nat} {b : Int} {i : Nat} (hn : n < 340282366920938463463374607431768211456) (ok : okP v n b = true) (hi : i < szP v n b) : n + i < 340282366920938463463374607431768211456 ∧ n + i ≤ lastN v n b := by
 have p := szP_pow (v := v) (n := n) (b := b)
 have l := (lastN_small ok hn).1
 unfold lastN at *
 omega

theorem host_has {v : Bool} {n : Nat} {b : Int} {i : Nat} (hn : n < 340282366920938463463374607431768211456) (ok : okP v n b = true) (hi : i < szP v n b) : hasB v n b v (n + i) = true :=
 (has_ends ok hn).2 ⟨by omega, (host_lt hn ok hi).2⟩

theorem nmP_host {v : Bool} {n : Nat} {b : Int} {i : Nat} (hn : n < 340282366920938463463374607431768211456) (ok : okP v n b = true) (hi : i < szP v n b) (hk : kpF (lkP v b) (szP v n b) i = false) : nmP v n b v (n + i) = some i := by
 unfold nmP
 rw [show n + i - n = i by omega, if_pos ⟨host_has hn ok hi, hi, hk⟩]



theorem pfx_start (w : World) (v : Bool) (h l b : Int) : Kn w [(w.heap.size, [.bool v, .int .u64 h, .int .u64 l, .int .i64 b], 28)] (w.alloc (.cells #[.bool v, .int .u64 h, .int .u64 l, .int .i64 b] 28)) := (Kn.nil w).push rfl

set_option maxRecDepth 100000 in
set_option maxHeartbeats 1600000 in
theorem sizeOf_no {v : Bool} {h l b rh rl : Int}
  (HS : Hid (∀ w', Calls Tryz.prog 94 #[pv v h l b] w' fun e w1 => e = .returned (.tuple #[nv rh rl, .bool false, .int .i64 1]) ∧ Below w'.heap.size w' w1)) (w : World) :
  Calls Tryz.prog 46 #[pv v h l b] w fun e w' => e = .returned (.int .i64 0) ∧ Below w.heap.size w w' := by
 have K := pfx_start w v h l b
 go_enter Tryz.func46, Tryz.ntmps46
 go_wp2_with fail
 refine (HS.out _).mono ?_
 rintro e w1 ⟨rfl, hb⟩
 have B := (K.below hb).bel
 have hs := B.size
 clear HS hb K
 go_wp2
 go_ret
 exact ⟨rfl, by repeat (first | with_reducible exact Below.refl _ _ | with_reducible refine Below.drew ?_ | with_reducible refine Below.alloc ?_ (by first | omega | (simp <;> omega)) _ | with_reducible refine Below.setCell ?_ (by first | omega | (simp <;> omega)) _ | with_reducible refine Below.trans ?_ (Below.mono B (by first | omega | (simp <;> omega))))⟩

set_option maxRecDepth 100000 in
set_option maxHeartbeats 1600000 in
theorem sizeOf_out {v : Bool} {h l b rh rl : Int}
  (HS : Hid (∀ w', Calls Tryz.prog 94 #[pv v h l b] w' fun e w1 => e = .returned (.tuple #[nv rh rl, .bool false, .int .i64 0]) ∧ Below w'.heap.size w' w1)) (w : World) :
  Calls Tryz.prog 46 #[pv v h l b] w fun e w' => e = .returned (.int .i64 65536) ∧ Below w.heap.size w w' := by
 have K := pfx_start w v h l b
 go_enter Tryz.func46, Tryz.ntmps46
 go_wp2_with fail
 refine (HS.out _).mono ?_
 rintro e w1 ⟨rfl, hb⟩
 have B := (K.below hb).bel
 have hs := B.size
 have K0 := (Kn.of (w := w) (W := w1) (L := []) trivial B).push (b := w1.heap.size) (cs := [.int .u64 rh, .int .u64 rl]) (t := 24) rfl
 clear HS hb K
 go_wp2_with fail
 refine wp_region_held_drew (S := (Kn w [(w1.heap.size, [.int .u64 rh, .int .u64 rl], 24)])) (by kernel_rfl) ?hS100 (fun hHeld => ?rest100)
 case hS100 => (first | with_reducible exact K0.drew)
 refine w8 0 ?_ (ga7 rfl) (by kernel_rfl) (fun _ _ _ h => h) ⟨by rfl, ?y101⟩ hHeld ?_
 case y101 => (intro wq hSw; (try simp only [Two, Kn, Facts, CellsAt] at hSw); go_simp; try with_reducible rfl)
 try simp only [Act.put, a7, b7, c7]
 refine w8 1 ?_ (ga7 rfl) (by kernel_rfl) (fun _ _ _ h => h) ⟨by rfl, ?y102⟩ hHeld ?_
 case y102 => (intro wq hSw; (try simp only [Two, Kn, Facts, CellsAt] at hSw); go_simp; try with_reducible rfl)
 try simp only [Act.put, a7, b7, c7]
 refine w8 2 ?_ (ga7 rfl) (by kernel_rfl) (fun _ _ _ h => h) ⟨by rfl, ?y103⟩ hHeld ?_
 case y103 => (intro wq hSw; (try simp only [Two, Kn, Facts, CellsAt] at hSw); go_simp; try with_reducible rfl)
 try simp only [Act.put, a7, b7, c7]
 refine wpAnyH_take (i := 3) (oi := _) (v := undef) (ga7 rfl) (by kernel_rfl) (by kernel_rfl) (by kernel_rfl) (fun _ _ _ h => h) (Or.inr ⟨by rfl, rfl⟩) (by assumption) ?rest104
 try simp only [Act.put, a7, b7, c7]
 refine wpAnyH_take (i := 4) (oi := _) (v := undef) (ga7 rfl) (by kernel_rfl) (by kernel_rfl) (by kernel_rfl) (fun _ _ _ h => h) (Or.inr ⟨by rfl, rfl⟩) (by assumption) ?rest105
 try simp only [Act.put, a7, b7, c7]
 refine wpAnyH_take (i := 5) (oi := _) (v := undef) (ga7 rfl) (by kernel_rfl) (by kernel_rfl) (by kernel_rfl) (fun _ _ _ h => h) (Or.inr ⟨by rfl, rfl⟩) (by assumption) ?rest106
 try simp only [Act.put, a7, b7, c7]
 refine wpAnyH_take (i := 6) (oi := _) (v := undef) (ga7 rfl) (by kernel_rfl) (by kernel_rfl) (by kernel_rfl) (fun _ _ _ h => h) (Or.inr ⟨by rfl, rfl⟩) (by assumption) ?rest107
 try simp only [Act.put, a7, b7, c7]
 refine w8 7 ?_ (ga7 rfl) (by kernel_rfl) (fun _ _ _ h => h) ⟨by rfl, ?y108⟩ hHeld ?_
 case y108 => (intro wq hSw; (try simp only [Two, Kn, Facts, CellsAt] at hSw); go_simp; try with_reducible rfl)
 try simp only [Act.put, a7, b7, c7]
 refine wpAnyH_done (by kernel_rfl) ?fin100 _
 clear hHeld K0
 go_wp2
 go_ret
 exact ⟨rfl, by repeat (first | with_reducible exact Below.refl _ _ | with_reducible refine Below.drew ?_ | with_reducible refine Below.alloc ?_ (by first | omega | (simp <;> omega)) _ | with_reducible refine Below.setCell ?_ (by first | omega | (simp <;> omega)) _ | with_reducible refine Below.trans ?_ (Below.mono B (by first | omega | (simp <;> omega))))⟩

set_option maxRecDepth 100000 in
set_option maxHeartbeats 1600000 in
theorem sizeOf_gt {v : Bool} {h l b rh rl : Int} (hw : IntKind.i64.wrap (65536) = 65536)
  (HS : Hid (∀ w', Calls Tryz.prog 94 #[pv v h l b] w' fun e w1 => e = .returned (.tuple #[nv rh rl, .bool true, .int .i64 0]) ∧ Below w'.heap.size w' w1))
  (CM : Hid (∀ w', Calls Tryz.prog 33 #[nv rh rl, nv 0 65536] w' fun e w1 => e = .returned (.int .i64 1) ∧ Below w'.heap.size w' w1)) (w : World) :
  Calls Tryz.prog 46 #[pv v h l b] w fun e w' => e = .returned (.int .i64 (65536)) ∧ Below w.heap.size w w' := by
 have K := pfx_start w v h l b
 have OF : Hid (∀ w', Calls Tryz.prog 34 #[.int .u64 65536] w' fun e w1 => e = .returned (nv 0 65536) ∧ Below w'.heap.size w' w1) := fun w' => of_w 65536 w'
 go_enter Tryz.func46, Tryz.ntmps46
 go_wp2_with fail
 refine (HS.out _).mono ?_
 rintro e w1 ⟨rfl, hb⟩
 have K0 := (Kn.of (w := w) (W := w1) (L := []) trivial (K.below hb).bel).push (b := w1.heap.size) (cs := [.int .u64 rh, .int .u64 rl]) (t := 24) rfl
 clear HS hb K
 go_wp2_with fail
 refine wp_region_held_drew (S := (Kn w [(w1.heap.size, [.int .u64 rh, .int .u64 rl], 24)])) (by kernel_rfl) ?hS200 (fun hHeld => ?rest200)
 case hS200 => with_reducible exact K0.drew
 refine w8 0 ?_ (ga7 rfl) (by kernel_rfl) (fun _ _ _ h => h) ⟨by rfl, ?y201⟩ hHeld ?_
 case y201 => (intro wq hSw; (try simp only [Two, Kn, Facts, CellsAt] at hSw); go_simp; try with_reducible rfl)
 try simp only [Act.put, a7, b7, c7]
 refine w8 1 ?_ (ga7 rfl) (by kernel_rfl) (fun _ _ _ h => h) ⟨by rfl, ?y202⟩ hHeld ?_
 case y202 => (intro wq hSw; (try simp only [Two, Kn, Facts, CellsAt] at hSw); go_simp; try with_reducible rfl)
 try simp only [Act.put, a7, b7, c7]
 refine w8 2 ?_ (ga7 rfl) (by kernel_rfl) (fun _ _ _ h => h) ⟨by rfl, ?y203⟩ hHeld ?_
 case y203 => (intro wq hSw; (try simp only [Two, Kn, Facts, CellsAt] at hSw); go_simp; try with_reducible rfl)
 try simp only [Act.put, a7, b7, c7]
 refine w8 3 ?_ (ga7 rfl) (by kernel_rfl) (fun _ _ _ h => h) ⟨by rfl, ?y204⟩ hHeld ?_
 case y204 => (intro wq hSw; (try simp only [Two, Kn, Facts, CellsAt] at hSw); go_simp; try with_reducible rfl)
 try simp only [Act.put, a7, b7, c7]
 refine wpAnyH_ready (rs := [4]) (by kernel_rfl) (by simp) ?rdy205
 refine AllReadyH.cons (ga7 rfl) (fun K hK => ?stp205) AllReadyH.nil
 go_simp
 go_wp2_with fail
 (refine (OF.out _).mono ?_; rintro e w4 ⟨rfl, hb4⟩)
 go_wp2_with fail
 refine hK.out _ _ ?hSn205 (fun hHeld2 => ?rest205)
 case hSn205 => with_reducible exact hHeld.below hb4
 clear hK K hHeld
 have hHeld := hHeld2
 clear hHeld2
 try simp only [Act.put, a7, b7, c7]
 refine wpAnyH_ready (rs := [5]) (by kernel_rfl) (by simp) ?rdy206
 refine AllReadyH.cons (ga7 rfl) (fun K hK => ?stp206) AllReadyH.nil
 go_simp
 go_wp2_with fail
 (refine (CM.out _).mono ?_; rintro e w5 ⟨rfl, hb5⟩; have K5 := hHeld.below hb5)
 go_wp2_with fail
 refine hK.out _ _ ?hSn206 (fun hHeld2 => ?rest206)
 case hSn206 => with_reducible exact hHeld.below hb5
 clear hK K hHeld
 have hHeld := hHeld2
 clear hHeld2
 try simp only [Act.put, a7, b7, c7]
 refine w8 6 ?_ (ga7 rfl) (by kernel_rfl) (fun _ _ _ h => h) ⟨by rfl, ?y207⟩ hHeld ?_
 case y207 => (intro wq hSw; (try simp only [Two, Kn, Facts, CellsAt] at hSw); go_simp; try with_reducible rfl)
 try simp only [Act.put, a7, b7, c7]
 refine w8 7 ?_ (ga7 rfl) (by kernel_rfl) (fun _ _ _ h => h) ⟨by rfl, ?y208⟩ hHeld ?_
 case y208 => (intro wq hSw; (try simp only [Two, Kn, Facts, CellsAt] at hSw); go_simp; try with_reducible rfl)
 try simp only [Act.put, a7, b7, c7]
 refine wpAnyH_done (by kernel_rfl) ?fin200 _
 have B := K5.bel
 have F := K5.1
 simp only [Facts, CellsAt] at F
 clear hHeld hb4 hb5 K0 OF CM K5
 go_wp2
 go_ret
 exact ⟨rfl, by repeat (first | with_reducible exact Below.refl _ _ | with_reducible refine Below.drew ?_ | with_reducible refine Below.alloc ?_ (by first | omega | (simp <;> omega)) _ | with_reducible refine Below.setCell ?_ (by first | omega | (simp <;> omega)) _ | with_reducible refine Below.trans ?_ (Below.mono B (by first | omega | (simp <;> omega))))⟩

set_option maxRecDepth 100000 in
set_option maxHeartbeats 1600000 in
theorem sizeOf_eq {v : Bool} {h l b rh rl : Int} (hw : IntKind.i64.wrap (rl) = rl)
  (HS : Hid (∀ w', Calls Tryz.prog 94 #[pv v h l b] w' fun e w1 => e = .returned (.tuple #[nv rh rl, .bool true, .int .i64 0]) ∧ Below w'.heap.size w' w1))
  (CM : Hid (∀ w', Calls Tryz.prog 33 #[nv rh rl, nv 0 65536] w' fun e w1 => e = .returned (.int .i64 0) ∧ Below w'.heap.size w' w1)) (w : World) :
  Calls Tryz.prog 46 #[pv v h l b] w fun e w' => e = .returned (.int .i64 (rl)) ∧ Below w.heap.size w w' := by
 have K := pfx_start w v h l b
 have OF : Hid (∀ w', Calls Tryz.prog 34 #[.int .u64 65536] w' fun e w1 => e = .returned (nv 0 65536) ∧ Below w'.heap.size w' w1) := fun w' => of_w 65536 w'
 go_enter Tryz.func46, Tryz.ntmps46
 go_wp2_with fail
 refine (HS.out _).mono ?_
 rintro e w1 ⟨rfl, hb⟩
 have K0 := (Kn.of (w := w) (W := w1) (L := []) trivial (K.below hb).bel).push (b := w1.heap.size) (cs := [.int .u64 rh, .int .u64 rl]) (t := 24) rfl
 clear HS hb K
 go_wp2_with fail
 refine wp_region_held_drew (S := (Kn w [(w1.heap.size, [.int .u64 rh, .int .u64 rl], 24)])) (by kernel_rfl) ?hS300 (fun hHeld => ?rest300)
 case hS300 => with_reducible exact K0.drew
 refine w8 0 ?_ (ga7 rfl) (by kernel_rfl) (fun _ _ _ h => h) ⟨by rfl, ?y301⟩ hHeld ?_
 case y301 => (intro wq hSw; (try simp only [Two, Kn, Facts, CellsAt] at hSw); go_simp; try with_reducible rfl)
 try simp only [Act.put, a7, b7, c7]
 refine w8 1 ?_ (ga7 rfl) (by kernel_rfl) (fun _ _ _ h => h) ⟨by rfl, ?y302⟩ hHeld ?_
 case y302 => (intro wq hSw; (try simp only [Two, Kn, Facts, CellsAt] at hSw); go_simp; try with_reducible rfl)
 try simp only [Act.put, a7, b7, c7]
 refine w8 2 ?_ (ga7 rfl) (by kernel_rfl) (fun _ _ _ h => h) ⟨by rfl, ?y303⟩ hHeld ?_
 case y303 => (intro wq hSw; (try simp only [Two, Kn, Facts, CellsAt] at hSw); go_simp; try with_reducible rfl)
 try simp only [Act.put, a7, b7, c7]
 refine w8 3 ?_ (ga7 rfl) (by kernel_rfl) (fun _ _ _ h => h) ⟨by rfl, ?y304⟩ hHeld ?_
 case y304 => (intro wq hSw; (try simp only [Two, Kn, Facts, CellsAt] at hSw); go_simp; try with_reducible rfl)
 try simp only [Act.put, a7, b7, c7]
 refine wpAnyH_ready (rs := [4]) (by kernel_rfl) (by simp) ?rdy305
 refine AllReadyH.cons (ga7 rfl) (fun K hK => ?stp305) AllReadyH.nil
 go_simp
 go_wp2_with fail
 (refine (OF.out _).mono ?_; rintro e w4 ⟨rfl, hb4⟩)
 go_wp2_with fail
 refine hK.out _ _ ?hSn305 (fun hHeld2 => ?rest305)
 case hSn305 => with_reducible exact hHeld.below hb4
 clear hK K hHeld
 have hHeld := hHeld2
 clear hHeld2
 try simp only [Act.put, a7, b7, c7]
 refine wpAnyH_ready (rs := [5]) (by kernel_rfl) (by simp) ?rdy306
 refine AllReadyH.cons (ga7 rfl) (fun K hK => ?stp306) AllReadyH.nil
 go_simp
 go_wp2_with fail
 (refine (CM.out _).mono ?_; rintro e w5 ⟨rfl, hb5⟩; have K5 := hHeld.below hb5)
 go_wp2_with fail
 refine hK.out _ _ ?hSn306 (fun hHeld2 => ?rest306)
 case hSn306 => with_reducible exact hHeld.below hb5
 clear hK K hHeld
 have hHeld := hHeld2
 clear hHeld2
 try simp only [Act.put, a7, b7, c7]
 refine w8 6 ?_ (ga7 rfl) (by kernel_rfl) (fun _ _ _ h => h) ⟨by rfl, ?y307⟩ hHeld ?_
 case y307 => (intro wq hSw; (try simp only [Two, Kn, Facts, CellsAt] at hSw); go_simp; try with_reducible rfl)
 try simp only [Act.put, a7, b7, c7]
 refine w8 7 ?_ (ga7 rfl) (by kernel_rfl) (fun _ _ _ h => h) ⟨by rfl, ?y308⟩ hHeld ?_
 case y308 => (intro wq hSw; (try simp only [Two, Kn, Facts, CellsAt] at hSw); go_simp; try with_reducible rfl)
 try simp only [Act.put, a7, b7, c7]
 refine wpAnyH_done (by kernel_rfl) ?fin300 _
 have B := K5.bel
 have F := K5.1
 simp only [Facts, CellsAt] at F
 clear hHeld hb4 hb5 K0 OF CM K5
 go_wp2
 go_ret
 exact ⟨rfl, by repeat (first | with_reducible exact Below.refl _ _ | with_reducible refine Below.drew ?_ | with_reducible refine Below.alloc ?_ (by first | omega | (simp <;> omega)) _ | with_reducible refine Below.setCell ?_ (by first | omega | (simp <;> omega)) _ | with_reducible refine Below.trans ?_ (Below.mono B (by first | omega | (simp <;> omega))))⟩

set_option maxRecDepth 100000 in
set_option maxHeartbeats 1600000 in
theorem sizeOf_lt {v : Bool} {h l b rh rl : Int} (hw : IntKind.i64.wrap (rl) = rl)
  (HS : Hid (∀ w', Calls Tryz.prog 94 #[pv v h l b] w' fun e w1 => e = .returned (.tuple #[nv rh rl, .bool true, .int .i64 0]) ∧ Below w'.heap.size w' w1))
  (CM : Hid (∀ w', Calls Tryz.prog 33 #[nv rh rl, nv 0 65536] w' fun e w1 => e = .returned (.int .i64 (-1)) ∧ Below w'.heap.size w' w1)) (w : World) :
  Calls Tryz.prog 46 #[pv v h l b] w fun e w' => e = .returned (.int .i64 (rl)) ∧ Below w.heap.size w w' := by
 have K := pfx_start w v h l b
 have OF : Hid (∀ w', Calls Tryz.prog 34 #[.int .u64 65536] w' fun e w1 => e = .returned (nv 0 65536) ∧ Below w'.heap.size w' w1) := fun w' => of_w 65536 w'
 go_enter Tryz.func46, Tryz.ntmps46
 go_wp2_with fail
 refine (HS.out _).mono ?_
 rintro e w1 ⟨rfl, hb⟩
 have K0 := (Kn.of (w := w) (W := w1) (L := []) trivial (K.below hb).bel).push (b := w1.heap.size) (cs := [.int .u64 rh, .int .u64 rl]) (t := 24) rfl
 clear HS hb K
 go_wp2_with fail
 refine wp_region_held_drew (S := (Kn w [(w1.heap.size, [.int .u64 rh, .int .u64 rl], 24)])) (by kernel_rfl) ?hS400 (fun hHeld => ?rest400)
 case hS400 => with_reducible exact K0.drew
 refine w8 0 ?_ (ga7 rfl) (by kernel_rfl) (fun _ _ _ h => h) ⟨by rfl, ?y401⟩ hHeld ?_
 case y401 => (intro wq hSw; (try simp only [Two, Kn, Facts, CellsAt] at hSw); go_simp; try with_reducible rfl)
 try simp only [Act.put, a7, b7, c7]
 refine w8 1 ?_ (ga7 rfl) (by kernel_rfl) (fun _ _ _ h => h) ⟨by rfl, ?y402⟩ hHeld ?_
 case y402 => (intro wq hSw; (try simp only [Two, Kn, Facts, CellsAt] at hSw); go_simp; try with_reducible rfl)
 try simp only [Act.put, a7, b7, c7]
 refine w8 2 ?_ (ga7 rfl) (by kernel_rfl) (fun _ _ _ h => h) ⟨by rfl, ?y403⟩ hHeld ?_
 case y403 => (intro wq hSw; (try simp only [Two, Kn, Facts, CellsAt] at hSw); go_simp; try with_reducible rfl)
 try simp only [Act.put, a7, b7, c7]
 refine w8 3 ?_ (ga7 rfl) (by kernel_rfl) (fun _ _ _ h => h) ⟨by rfl, ?y404⟩ hHeld ?_
 case y404 => (intro wq hSw; (try simp only [Two, Kn, Facts, CellsAt] at hSw); go_simp; try with_reducible rfl)
 try simp only [Act.put, a7, b7, c7]
 refine wpAnyH_ready (rs := [4]) (by kernel_rfl) (by simp) ?rdy405
 refine AllReadyH.cons (ga7 rfl) (fun K hK => ?stp405) AllReadyH.nil
 go_simp
 go_wp2_with fail
 (refine (OF.out _).mono ?_; rintro e w4 ⟨rfl, hb4⟩)
 go_wp2_with fail
 refine hK.out _ _ ?hSn405 (fun hHeld2 => ?rest405)
 case hSn405 => with_reducible exact hHeld.below hb4
 clear hK K hHeld
 have hHeld := hHeld2
 clear hHeld2
 try simp only [Act.put, a7, b7, c7]
 refine wpAnyH_ready (rs := [5]) (by kernel_rfl) (by simp) ?rdy406
 refine AllReadyH.cons (ga7 rfl) (fun K hK => ?stp406) AllReadyH.nil
 go_simp
 go_wp2_with fail
 (refine (CM.out _).mono ?_; rintro e w5 ⟨rfl, hb5⟩; have K5 := hHeld.below hb5)
 go_wp2_with fail
 refine hK.out _ _ ?hSn406 (fun hHeld2 => ?rest406)
 case hSn406 => with_reducible exact hHeld.below hb5
 clear hK K hHeld
 have hHeld := hHeld2
 clear hHeld2
 try simp only [Act.put, a7, b7, c7]
 refine w8 6 ?_ (ga7 rfl) (by kernel_rfl) (fun _ _ _ h => h) ⟨by rfl, ?y407⟩ hHeld ?_
 case y407 => (intro wq hSw; (try simp only [Two, Kn, Facts, CellsAt] at hSw); go_simp; try with_reducible rfl)
 try simp only [Act.put, a7, b7, c7]
 refine w8 7 ?_ (ga7 rfl) (by kernel_rfl) (fun _ _ _ h => h) ⟨by rfl, ?y408⟩ hHeld ?_
 case y408 => (intro wq hSw; (try simp only [Two, Kn, Facts, CellsAt] at hSw); go_simp; try with_reducible rfl)
 try simp only [Act.put, a7, b7, c7]
 refine wpAnyH_done (by kernel_rfl) ?fin400 _
 have B := K5.bel
 have F := K5.1
 simp only [Facts, CellsAt] at F
 clear hHeld hb4 hb5 K0 OF CM K5
 go_wp2
 go_ret
 exact ⟨rfl, by repeat (first | with_reducible exact Below.refl _ _ | with_reducible refine Below.drew ?_ | with_reducible refine Below.alloc ?_ (by first | omega | (simp <;> omega)) _ | with_reducible refine Below.setCell ?_ (by first | omega | (simp <;> omega)) _ | with_reducible refine Below.trans ?_ (Below.mono B (by first | omega | (simp <;> omega))))⟩

theorem sizeOf_c {v : Bool} {h l b : Int} {n : Nat} (hp : IsNum h l n) (w : World) :
  Calls Tryz.prog 46 #[pv v h l b] w fun e w' => e = .returned (.int .i64 (szP v n b : Nat)) ∧ Below w.heap.size w w' := by
 obtain ⟨W, hW⟩ : ∃ W, widthA v = W := ⟨_, rfl⟩
 cases kp : okP v n b
 ·have hc : cutB v n b W = false := by unfold cutB; rw [kp]; rfl
  have e : szP v n b = 0 := by unfold szP; rw [kp]; rfl
  rw [e]
  exact sizeOf_no (fun w' => hosts_any hW (fun w1 => blks_no hp hc w1) w') w
 ·obtain ⟨_, b0, b1⟩ := fitsB_parts (okP_parts kp).1
  have hc : cutB v n b W = true := by
   unfold cutB; rw [kp, decide_eq_true (by omega : b ≤ W), decide_eq_true (by omega : W ≤ widthA v)]; rfl
  have eb : behindP v b = (W - b).toNat := by unfold behindP; rw [hW]
  have b128 := behindP_le (v := v) b0
  rw [eb] at b128
  obtain ⟨rh, rl, t, hr⟩ := countIs_ex b128
  have HS : Hid (∀ w', Calls Tryz.prog 94 #[pv v h l b] w' fun e w1 => e = .returned (.tuple #[nv rh rl, .bool t, .int .i64 0]) ∧ Below w'.heap.size w' w1) := fun w' => hosts_any hW (fun w1 => blks_ok hp hc hr w1) w'
  have n6 : IsNum 0 65536 65536 := ⟨by omega, by omega, by omega, by omega, rfl⟩
  unfold szP
  rw [if_pos kp, eb]
  rcases hr with ⟨k1, rfl, k3⟩ | ⟨k1, rfl, rfl, rfl⟩
  ·by_cases c : (W - b).toNat ≤ 16
   ·rw [if_pos c]
    have le := Nat.pow_le_pow_right (n := 2) (by decide) c
    rw [show (2 : Nat) ^ 16 = 65536 by decide] at le
    obtain ⟨Q, hQ⟩ : ∃ Q, 2 ^ (W - b).toNat = Q := ⟨_, rfl⟩
    rw [hQ] at le k3 ⊢
    have hl : rl = (Q : Int) ∧ rh = 0 := by
     obtain ⟨x1, x2, x3, x4, x5⟩ := k3
     omega
    have hl1 := hl.1
    have hw : IntKind.i64.wrap rl = rl := by simp [IntKind.wrap, IntKind.bits, IntKind.signed]; omega
    rw [← hl.1]
    rcases Nat.lt_or_eq_of_le le with lt | eq
    ·exact sizeOf_lt hw HS (fun w' => num_cmp k3 n6 (cmpI_lt (by omega)).symm w') w
    ·exact sizeOf_eq hw HS (fun w' => num_cmp k3 n6 (cmpI_eq (by omega)).symm w') w
   ·rw [if_neg c]
    have le := Nat.pow_le_pow_right (n := 2) (by decide) (show 17 ≤ (W - b).toNat by omega)
    rw [show (2 : Nat) ^ 17 = 131072 by decide] at le
    exact sizeOf_gt (by decide) HS (fun w' => num_cmp k3 n6 (cmpI_gt (by omega)).symm w') w
  ·rw [if_neg (by omega)]
   exact sizeOf_out HS w

set_option maxRecDepth 100000 in
set_option maxHeartbeats 3200000 in
theorem host_w {v : Bool} {h l b i rh rl : Int} {a x : Nat} (hi : IntKind.u64.wrap i = i)
  (HO : Hid (∀ w', Calls Tryz.prog 107 #[pv v h l b, nv 0 i] w' fun e w1 => e = .returned (.tuple #[av v rh rl, .int .i64 0]) ∧ Below w'.heap.size w' w1)) (w : World)
  (hx : Blk w x #[.bool v, .int .u64 h, .int .u64 l, .int .i64 b, .pointer (some ⟨a, 0, none⟩)] 82) :
  Calls Tryz.prog 63 #[.pointer (some ⟨x, 0, none⟩), .int .i64 i] w fun e w' => e = .returned (av v rh rl) ∧ Below w.heap.size w w' := by
 have OF : Hid (∀ w', Calls Tryz.prog 34 #[.int .u64 i] w' fun e w1 => e = .returned (nv 0 i) ∧ Below w'.heap.size w' w1) := fun w' => of_w i w'
 have R0 : Kn w [(w.heap.size, [.bool false, .int .u64 0, .int .u64 0], 26), (x, [.bool v, .int .u64 h, .int .u64 l, .int .i64 b, .pointer (some ⟨a, 0, none⟩)], 82)] (w.alloc (.cells #[.bool false, .int .u64 0, .int .u64 0] 26)) := ((Kn.nil w).cons hx).push rfl
 have hxl := hx.lt
 obtain ⟨w0, hw0⟩ : ∃ w0, w0 = w.alloc (.cells #[.bool false, .int .u64 0, .int .u64 0] 26) := ⟨_, rfl⟩
 rw [← hw0] at R0
 have LT := R0.lts
 simp only [Lts] at LT
 have hs0 := R0.bel.size
 clear hx
 go_enter Tryz.func63, Tryz.ntmps63
 go_upto_region 1 with fail
 rw [← hw0]
 clear hw0
 go_cut [5, 6] (fun p t wc => ∃ X : Nat, p = .pointer (some ⟨X, 0, none⟩) ∧ t = .int .i64 0 ∧ w.heap.size < X ∧ Blk wc X #[.bool v, .int .u64 rh, .int .u64 rl] 26 ∧ Kn w [(w.heap.size, [.bool false, .int .u64 0, .int .u64 0], 26), (x, [.bool v, .int .u64 h, .int .u64 l, .int .i64 b, .pointer (some ⟨a, 0, none⟩)], 82)] wc)
 case first =>
  refine wp_region_held_drew (S := (Kn w [(w.heap.size, [.bool false, .int .u64 0, .int .u64 0], 26), (x, [.bool v, .int .u64 h, .int .u64 l, .int .i64 b, .pointer (some ⟨a, 0, none⟩)], 82)])) (by kernel_rfl) ?hS5001 (fun hHeld => ?rest5001)
  case hS5001 => (first | with_reducible exact R0.drew | with_reducible exact (R0.alloc _).drew | with_reducible exact hHeld.below hb4 | with_reducible exact hHeld.below hb5 | with_reducible exact hHeld.alloc _ | with_reducible exact K5.alloc _ | with_reducible exact hHeld.far3 (by simp only [Off]; repeat' (first | exact trivial | refine And.intro ?_ ?_ | omega)) (by omega) _ _ _ | with_reducible exact K5.far3 (by simp only [Off]; repeat' (first | exact trivial | refine And.intro ?_ ?_ | omega)) (by omega) _ _ _ | with_reducible exact (K5.alloc _).far3 (by simp only [Off]; repeat' (first | exact trivial | refine And.intro ?_ ?_ | omega)) (by omega) _ _ _)
  refine w8 0 ?_ (ga7 rfl) (by kernel_rfl) (fun _ _ _ h => h) ⟨by rfl, ?y5002⟩ hHeld ?_
  case y5002 => (intro wq hSw; (try simp only [Two, Kn, Facts, CellsAt] at hSw); go_simp; try with_reducible rfl)
  try simp only [Act.put, a7, b7, c7]
  refine w8 1 ?_ (ga7 rfl) (by kernel_rfl) (fun _ _ _ h => h) ⟨by rfl, ?y5003⟩ hHeld ?_
  case y5003 => (intro wq hSw; (try simp only [Two, Kn, Facts, CellsAt] at hSw); go_simp; try with_reducible rfl)
  try simp only [Act.put, a7, b7, c7]
  refine w8 2 ?_ (ga7 rfl) (by kernel_rfl) (fun _ _ _ h => h) ⟨by rfl, ?y5004⟩ hHeld ?_
  case y5004 => (intro wq hSw; (try simp only [Two, Kn, Facts, CellsAt] at hSw); go_simp; try with_reducible rfl)
  try simp only [Act.put, a7, b7, c7]
  refine w8 3 ?_ (ga7 rfl) (by kernel_rfl) (fun _ _ _ h => h) ⟨by rfl, ?y5005⟩ hHeld ?_
  case y5005 => (intro wq hSw; (try simp only [Two, Kn, Facts, CellsAt] at hSw); go_simp; try with_reducible rfl)
  try simp only [Act.put, a7, b7, c7]
  refine w8 4 ?_ (ga7 rfl) (by kernel_rfl) (fun _ _ _ h => h) ⟨by rfl, ?y5006⟩ hHeld ?_
  case y5006 => (intro wq hSw; (try simp only [Two, Kn, Facts, CellsAt] at hSw); go_simp; try with_reducible rfl)
  try simp only [Act.put, a7, b7, c7]
  refine w8 5 ?_ (ga7 rfl) (by kernel_rfl) (fun _ _ _ h => h) ⟨by rfl, ?y5007⟩ hHeld ?_
  case y5007 => (intro wq hSw; (try simp only [Two, Kn, Facts, CellsAt] at hSw); go_simp; try with_reducible rfl)
  try simp only [Act.put, a7, b7, c7]
  refine wpAnyH_ready (rs := [6, 11]) (by kernel_rfl) (by simp) ?rdy5008
  refine (AllReadyH.cons (ga7 rfl) (fun K hK => ?stp5008_6) (AllReadyH.cons (ga7 rfl) (fun K hK => ?stp5008_11) AllReadyH.nil))
  case stp5008_6 =>
   go_simp
   go_wp2_with fail
   (refine (OF.out _).mono ?_; rintro e w4 ⟨rfl, hb4⟩; have s4 : w0.heap.size ≤ w4.heap.size := (by have := hb4.size; first | exact this | (simp at this; omega)); first | (have U4 : Blk w4 w0.heap.size #[.bool false, .int .u64 0, .int .u64 0] 26 := Blk.via hb4 (Blk.new w0 #[.bool false, .int .u64 0, .int .u64 0] 26) rfl; obtain ⟨u0, u1, u2, u3, u4, u5, u6⟩ := U4.three) | skip)
   go_wp2_with fail
   refine hK.out _ _ ?hSn5009 (fun hHeld2 => ?rest5009)
   case hSn5009 => (first | with_reducible exact R0.drew | with_reducible exact (R0.alloc _).drew | with_reducible exact hHeld.below hb4 | with_reducible exact hHeld.below hb5 | with_reducible exact hHeld.alloc _ | with_reducible exact K5.alloc _ | with_reducible exact hHeld.far3 (by simp only [Off]; repeat' (first | exact trivial | refine And.intro ?_ ?_ | omega)) (by omega) _ _ _ | with_reducible exact K5.far3 (by simp only [Off]; repeat' (first | exact trivial | refine And.intro ?_ ?_ | omega)) (by omega) _ _ _ | with_reducible exact (K5.alloc _).far3 (by simp only [Off]; repeat' (first | exact trivial | refine And.intro ?_ ?_ | omega)) (by omega) _ _ _)
   clear hK K hHeld
   have hHeld := hHeld2
   clear hHeld2
   try simp only [Act.put, a7, b7, c7]
   refine wpAnyH_ready (rs := [7, 11]) (by kernel_rfl) (by simp) ?rdy5010
   refine (AllReadyH.cons (ga7 rfl) (fun K hK => ?stp5010_7) (AllReadyH.cons (ga7 rfl) (fun K hK => ?stp5010_11) AllReadyH.nil))
   case stp5010_7 =>
    go_simp
    go_wp2_with fail
    (refine (HO.out _).mono ?_; rintro e w5 ⟨rfl, hb5⟩; have K5 := hHeld.below hb5; have s5 : w4.heap.size ≤ w5.heap.size := (by have := hb5.size; first | exact this | (simp at this; omega)); first | (have U5 := U4.below hb5; obtain ⟨a0, a1, a2, a3, a4, a5, a6⟩ := U5.three) | (have U5 : Blk w5 w4.heap.size #[.bool false, .int .u64 0, .int .u64 0] 26 := Blk.via hb5 (Blk.new w4 #[.bool false, .int .u64 0, .int .u64 0] 26) rfl; obtain ⟨p0, p1, p2, p3, p4, p5, p6⟩ := U5.three) | skip)
    go_wp2_with fail
    refine hK.out _ _ ?hSn5011 (fun hHeld2 => ?rest5011)
    case hSn5011 => (first | with_reducible exact R0.drew | with_reducible exact (R0.alloc _).drew | with_reducible exact hHeld.below hb4 | with_reducible exact hHeld.below hb5 | with_reducible exact hHeld.alloc _ | with_reducible exact K5.alloc _ | with_reducible exact hHeld.far3 (by simp only [Off]; repeat' (first | exact trivial | refine And.intro ?_ ?_ | omega)) (by omega) _ _ _ | with_reducible exact K5.far3 (by simp only [Off]; repeat' (first | exact trivial | refine And.intro ?_ ?_ | omega)) (by omega) _ _ _ | with_reducible exact (K5.alloc _).far3 (by simp only [Off]; repeat' (first | exact trivial | refine And.intro ?_ ?_ | omega)) (by omega) _ _ _)
    clear hK K hHeld
    have hHeld := hHeld2
    clear hHeld2
    try simp only [Act.put, a7, b7, c7]
    refine w8 8 ?_ (ga7 rfl) (by kernel_rfl) (fun _ _ _ h => h) ⟨by rfl, ?y5012⟩ hHeld ?_
    case y5012 => (intro wq hSw; (try simp only [Two, Kn, Facts, CellsAt] at hSw); go_simp; try with_reducible rfl)
    try simp only [Act.put, a7, b7, c7]
    refine w8 9 ?_ (ga7 rfl) (by kernel_rfl) (fun _ _ _ h => h) ⟨by rfl, ?y5013⟩ hHeld ?_
    case y5013 => (intro wq hSw; (try simp only [Two, Kn, Facts, CellsAt] at hSw); go_simp; try with_reducible rfl)
    try simp only [Act.put, a7, b7, c7]
    refine w8 10 ?_ (ga7 rfl) (by kernel_rfl) (fun _ _ _ h => h) ⟨by rfl, ?y5014⟩ hHeld ?_
    case y5014 => (intro wq hSw; (try simp only [Two, Kn, Facts, CellsAt] at hSw); go_simp; try with_reducible rfl)
    try simp only [Act.put, a7, b7, c7]
    refine wpAnyH_ready (rs := [11]) (by kernel_rfl) (by simp) ?rdy5015
    refine (AllReadyH.cons (ga7 rfl) (fun K hK => ?stp5015_11) AllReadyH.nil)
    case stp5015_11 =>
     go_simp
     go_wp2_with fail
     refine hK.out _ _ ?hSn5016 (fun hHeld2 => ?rest5016)
     case hSn5016 => (first | with_reducible exact R0.drew | with_reducible exact (R0.alloc _).drew | with_reducible exact hHeld.below hb4 | with_reducible exact hHeld.below hb5 | with_reducible exact hHeld.alloc _ | with_reducible exact K5.alloc _ | with_reducible exact hHeld.far3 (by simp only [Off]; repeat' (first | exact trivial | refine And.intro ?_ ?_ | omega)) (by omega) _ _ _ | with_reducible exact K5.far3 (by simp only [Off]; repeat' (first | exact trivial | refine And.intro ?_ ?_ | omega)) (by omega) _ _ _ | with_reducible exact (K5.alloc _).far3 (by simp only [Off]; repeat' (first | exact trivial | refine And.intro ?_ ?_ | omega)) (by omega) _ _ _)
     clear hK K hHeld
     have hHeld := hHeld2
     clear hHeld2
     try simp only [Act.put, a7, b7, c7]
     refine wpAnyH_ready (rs := [12]) (by kernel_rfl) (by simp) ?rdy5017
     refine (AllReadyH.cons (ga7 rfl) (fun K hK => ?stp5017_12) AllReadyH.nil)
     case stp5017_12 =>
      go_simp
      go_wp2_with fail
      refine hK.out _ _ ?hSn5018 (fun hHeld2 => ?rest5018)
      case hSn5018 => (first | with_reducible exact R0.drew | with_reducible exact (R0.alloc _).drew | with_reducible exact hHeld.below hb4 | with_reducible exact hHeld.below hb5 | with_reducible exact hHeld.alloc _ | with_reducible exact K5.alloc _ | with_reducible exact hHeld.far3 (by simp only [Off]; repeat' (first | exact trivial | refine And.intro ?_ ?_ | omega)) (by omega) _ _ _ | with_reducible exact K5.far3 (by simp only [Off]; repeat' (first | exact trivial | refine And.intro ?_ ?_ | omega)) (by omega) _ _ _ | with_reducible exact (K5.alloc _).far3 (by simp only [Off]; repeat' (first | exact trivial | refine And.intro ?_ ?_ | omega)) (by omega) _ _ _)
      clear hK K hHeld
      have hHeld := hHeld2
      clear hHeld2
      try simp only [Act.put, a7, b7, c7]
      refine w8 13 ?_ (ga7 rfl) (by kernel_rfl) (fun _ _ _ h => h) ⟨by rfl, ?y5019⟩ hHeld ?_
      case y5019 => (intro wq hSw; (try simp only [Two, Kn, Facts, CellsAt] at hSw); go_simp; try with_reducible rfl)
      try simp only [Act.put, a7, b7, c7]
      refine wpAnyH_done (by kernel_rfl) ?_ _
      go_wp2_with fail
      go_meet
      case rel => exact ⟨_, rfl, rfl, (by omega), (by repeat (first | with_reducible exact Blk.new _ _ _ | with_reducible exact U5 | with_reducible refine Blk.put3 (x := .bool false) (y := .int .u64 0) (z := .int .u64 0) ?_ _ _ _)), hHeld⟩
   case stp5010_11 =>
    go_simp
    go_wp2_with fail
    refine hK.out _ _ ?hSn5020 (fun hHeld2 => ?rest5020)
    case hSn5020 => (first | with_reducible exact R0.drew | with_reducible exact (R0.alloc _).drew | with_reducible exact hHeld.below hb4 | with_reducible exact hHeld.below hb5 | with_reducible exact hHeld.alloc _ | with_reducible exact K5.alloc _ | with_reducible exact hHeld.far3 (by simp only [Off]; repeat' (first | exact trivial | refine And.intro ?_ ?_ | omega)) (by omega) _ _ _ | with_reducible exact K5.far3 (by simp only [Off]; repeat' (first | exact trivial | refine And.intro ?_ ?_ | omega)) (by omega) _ _ _ | with_reducible exact (K5.alloc _).far3 (by simp only [Off]; repeat' (first | exact trivial | refine And.intro ?_ ?_ | omega)) (by omega) _ _ _)
    clear hK K hHeld
    have hHeld := hHeld2
    clear hHeld2
    try simp only [Act.put, a7, b7, c7]
    refine wpAnyH_ready (rs := [7]) (by kernel_rfl) (by simp) ?rdy5021
    refine (AllReadyH.cons (ga7 rfl) (fun K hK => ?stp5021_7) AllReadyH.nil)
    case stp5021_7 =>
     go_simp
     go_wp2_with fail
     (refine (HO.out _).mono ?_; rintro e w5 ⟨rfl, hb5⟩; have K5 := hHeld.below hb5; have s5 : w4.heap.size ≤ w5.heap.size := (by have := hb5.size; first | exact this | (simp at this; omega)); first | (have U5 := U4.below hb5; obtain ⟨a0, a1, a2, a3, a4, a5, a6⟩ := U5.three) | (have U5 : Blk w5 w4.heap.size #[.bool false, .int .u64 0, .int .u64 0] 26 := Blk.via hb5 (Blk.new w4 #[.bool false, .int .u64 0, .int .u64 0] 26) rfl; obtain ⟨p0, p1, p2, p3, p4, p5, p6⟩ := U5.three) | skip)
     go_wp2_with fail
     refine hK.out _ _ ?hSn5022 (fun hHeld2 => ?rest5022)
     case hSn5022 => (first | with_reducible exact R0.drew | with_reducible exact (R0.alloc _).drew | with_reducible exact hHeld.below hb4 | with_reducible exact hHeld.below hb5 | with_reducible exact hHeld.alloc _ | with_reducible exact K5.alloc _ | with_reducible exact hHeld.far3 (by simp only [Off]; repeat' (first | exact trivial | refine And.intro ?_ ?_ | omega)) (by omega) _ _ _ | with_reducible exact K5.far3 (by simp only [Off]; repeat' (first | exact trivial | refine And.intro ?_ ?_ | omega)) (by omega) _ _ _ | with_reducible exact (K5.alloc _).far3 (by simp only [Off]; repeat' (first | exact trivial | refine And.intro ?_ ?_ | omega)) (by omega) _ _ _)
     clear hK K hHeld
     have hHeld := hHeld2
     clear hHeld2
     try simp only [Act.put, a7, b7, c7]
     refine w8 8 ?_ (ga7 rfl) (by kernel_rfl) (fun _ _ _ h => h) ⟨by rfl, ?y5023⟩ hHeld ?_
     case y5023 => (intro wq hSw; (try simp only [Two, Kn, Facts, CellsAt] at hSw); go_simp; try with_reducible rfl)
     try simp only [Act.put, a7, b7, c7]
     refine w8 9 ?_ (ga7 rfl) (by kernel_rfl) (fun _ _ _ h => h) ⟨by rfl, ?y5024⟩ hHeld ?_
     case y5024 => (intro wq hSw; (try simp only [Two, Kn, Facts, CellsAt] at hSw); go_simp; try with_reducible rfl)
     try simp only [Act.put, a7, b7, c7]
     refine w8 10 ?_ (ga7 rfl) (by kernel_rfl) (fun _ _ _ h => h) ⟨by rfl, ?y5025⟩ hHeld ?_
     case y5025 => (intro wq hSw; (try simp only [Two, Kn, Facts, CellsAt] at hSw); go_simp; try with_reducible rfl)
     try simp only [Act.put, a7, b7, c7]
     refine wpAnyH_ready (rs := [12]) (by kernel_rfl) (by simp) ?rdy5026
     refine (AllReadyH.cons (ga7 rfl) (fun K hK => ?stp5026_12) AllReadyH.nil)
     case stp5026_12 =>
      go_simp
      go_wp2_with fail
      refine hK.out _ _ ?hSn5027 (fun hHeld2 => ?rest5027)
      case hSn5027 => (first | with_reducible exact R0.drew | with_reducible exact (R0.alloc _).drew | with_reducible exact hHeld.below hb4 | with_reducible exact hHeld.below hb5 | with_reducible exact hHeld.alloc _ | with_reducible exact K5.alloc _ | with_reducible exact hHeld.far3 (by simp only [Off]; repeat' (first | exact trivial | refine And.intro ?_ ?_ | omega)) (by omega) _ _ _ | with_reducible exact K5.far3 (by simp only [Off]; repeat' (first | exact trivial | refine And.intro ?_ ?_ | omega)) (by omega) _ _ _ | with_reducible exact (K5.alloc _).far3 (by simp only [Off]; repeat' (first | exact trivial | refine And.intro ?_ ?_ | omega)) (by omega) _ _ _)
      clear hK K hHeld
      have hHeld := hHeld2
      clear hHeld2
      try simp only [Act.put, a7, b7, c7]
      refine w8 13 ?_ (ga7 rfl) (by kernel_rfl) (fun _ _ _ h => h) ⟨by rfl, ?y5028⟩ hHeld ?_
      case y5028 => (intro wq hSw; (try simp only [Two, Kn, Facts, CellsAt] at hSw); go_simp; try with_reducible rfl)
      try simp only [Act.put, a7, b7, c7]
      refine wpAnyH_done (by kernel_rfl) ?_ _
      go_wp2_with fail
      go_meet
      case rel => exact ⟨_, rfl, rfl, (by omega), (by repeat (first | with_reducible exact Blk.new _ _ _ | with_reducible exact U5 | with_reducible refine Blk.put3 (x := .bool false) (y := .int .u64 0) (z := .int .u64 0) ?_ _ _ _)), hHeld⟩
  case stp5008_11 =>
   go_simp
   go_wp2_with fail
   refine hK.out _ _ ?hSn5029 (fun hHeld2 => ?rest5029)
   case hSn5029 => (first | with_reducible exact R0.drew | with_reducible exact (R0.alloc _).drew | with_reducible exact hHeld.below hb4 | with_reducible exact hHeld.below hb5 | with_reducible exact hHeld.alloc _ | with_reducible exact K5.alloc _ | with_reducible exact hHeld.far3 (by simp only [Off]; repeat' (first | exact trivial | refine And.intro ?_ ?_ | omega)) (by omega) _ _ _ | with_reducible exact K5.far3 (by simp only [Off]; repeat' (first | exact trivial | refine And.intro ?_ ?_ | omega)) (by omega) _ _ _ | with_reducible exact (K5.alloc _).far3 (by simp only [Off]; repeat' (first | exact trivial | refine And.intro ?_ ?_ | omega)) (by omega) _ _ _)
   clear hK K hHeld
   have hHeld := hHeld2
   clear hHeld2
   try simp only [Act.put, a7, b7, c7]
   refine wpAnyH_ready (rs := [6]) (by kernel_rfl) (by simp) ?rdy5030
   refine (AllReadyH.cons (ga7 rfl) (fun K hK => ?stp5030_6) AllReadyH.nil)
   case stp5030_6 =>
    go_simp
    go_wp2_with fail
    (refine (OF.out _).mono ?_; rintro e w4 ⟨rfl, hb4⟩; have s4 : w0.heap.size ≤ w4.heap.size := (by have := hb4.size; first | exact this | (simp at this; omega)); first | (have U4 : Blk w4 w0.heap.size #[.bool false, .int .u64 0, .int .u64 0] 26 := Blk.via hb4 (Blk.new w0 #[.bool false, .int .u64 0, .int .u64 0] 26) rfl; obtain ⟨u0, u1, u2, u3, u4, u5, u6⟩ := U4.three) | skip)
    go_wp2_with fail
    refine hK.out _ _ ?hSn5031 (fun hHeld2 => ?rest5031)
    case hSn5031 => (first | with_reducible exact R0.drew | with_reducible exact (R0.alloc _).drew | with_reducible exact hHeld.below hb4 | with_reducible exact hHeld.below hb5 | with_reducible exact hHeld.alloc _ | with_reducible exact K5.alloc _ | with_reducible exact hHeld.far3 (by simp only [Off]; repeat' (first | exact trivial | refine And.intro ?_ ?_ | omega)) (by omega) _ _ _ | with_reducible exact K5.far3 (by simp only [Off]; repeat' (first | exact trivial | refine And.intro ?_ ?_ | omega)) (by omega) _ _ _ | with_reducible exact (K5.alloc _).far3 (by simp only [Off]; repeat' (first | exact trivial | refine And.intro ?_ ?_ | omega)) (by omega) _ _ _)
    clear hK K hHeld
    have hHeld := hHeld2
    clear hHeld2
    try simp only [Act.put, a7, b7, c7]
    refine wpAnyH_ready (rs := [7]) (by kernel_rfl) (by simp) ?rdy5032
    refine (AllReadyH.cons (ga7 rfl) (fun K hK => ?stp5032_7) AllReadyH.nil)
    case stp5032_7 =>
     go_simp
     go_wp2_with fail
     (refine (HO.out _).mono ?_; rintro e w5 ⟨rfl, hb5⟩; have K5 := hHeld.below hb5; have s5 : w4.heap.size ≤ w5.heap.size := (by have := hb5.size; first | exact this | (simp at this; omega)); first | (have U5 := U4.below hb5; obtain ⟨a0, a1, a2, a3, a4, a5, a6⟩ := U5.three) | (have U5 : Blk w5 w4.heap.size #[.bool false, .int .u64 0, .int .u64 0] 26 := Blk.via hb5 (Blk.new w4 #[.bool false, .int .u64 0, .int .u64 0] 26) rfl; obtain ⟨p0, p1, p2, p3, p4, p5, p6⟩ := U5.three) | skip)
     go_wp2_with fail
     refine hK.out _ _ ?hSn5033 (fun hHeld2 => ?rest5033)
     case hSn5033 => (first | with_reducible exact R0.drew | with_reducible exact (R0.alloc _).drew | with_reducible exact hHeld.below hb4 | with_reducible exact hHeld.below hb5 | with_reducible exact hHeld.alloc _ | with_reducible exact K5.alloc _ | with_reducible exact hHeld.far3 (by simp only [Off]; repeat' (first | exact trivial | refine And.intro ?_ ?_ | omega)) (by omega) _ _ _ | with_reducible exact K5.far3 (by simp only [Off]; repeat' (first | exact trivial | refine And.intro ?_ ?_ | omega)) (by omega) _ _ _ | with_reducible exact (K5.alloc _).far3 (by simp only [Off]; repeat' (first | exact trivial | refine And.intro ?_ ?_ | omega)) (by omega) _ _ _)
     clear hK K hHeld
     have hHeld := hHeld2
     clear hHeld2
     try simp only [Act.put, a7, b7, c7]
     refine w8 8 ?_ (ga7 rfl) (by kernel_rfl) (fun _ _ _ h => h) ⟨by rfl, ?y5034⟩ hHeld ?_
     case y5034 => (intro wq hSw; (try simp only [Two, Kn, Facts, CellsAt] at hSw); go_simp; try with_reducible rfl)
     try simp only [Act.put, a7, b7, c7]
     refine w8 9 ?_ (ga7 rfl) (by kernel_rfl) (fun _ _ _ h => h) ⟨by rfl, ?y5035⟩ hHeld ?_
     case y5035 => (intro wq hSw; (try simp only [Two, Kn, Facts, CellsAt] at hSw); go_simp; try with_reducible rfl)
     try simp only [Act.put, a7, b7, c7]
     refine w8 10 ?_ (ga7 rfl) (by kernel_rfl) (fun _ _ _ h => h) ⟨by rfl, ?y5036⟩ hHeld ?_
     case y5036 => (intro wq hSw; (try simp only [Two, Kn, Facts, CellsAt] at hSw); go_simp; try with_reducible rfl)
     try simp only [Act.put, a7, b7, c7]
     refine wpAnyH_ready (rs := [12]) (by kernel_rfl) (by simp) ?rdy5037
     refine (AllReadyH.cons (ga7 rfl) (fun K hK => ?stp5037_12) AllReadyH.nil)
     case stp5037_12 =>
      go_simp
      go_wp2_with fail
      refine hK.out _ _ ?hSn5038 (fun hHeld2 => ?rest5038)
      case hSn5038 => (first | with_reducible exact R0.drew | with_reducible exact (R0.alloc _).drew | with_reducible exact hHeld.below hb4 | with_reducible exact hHeld.below hb5 | with_reducible exact hHeld.alloc _ | with_reducible exact K5.alloc _ | with_reducible exact hHeld.far3 (by simp only [Off]; repeat' (first | exact trivial | refine And.intro ?_ ?_ | omega)) (by omega) _ _ _ | with_reducible exact K5.far3 (by simp only [Off]; repeat' (first | exact trivial | refine And.intro ?_ ?_ | omega)) (by omega) _ _ _ | with_reducible exact (K5.alloc _).far3 (by simp only [Off]; repeat' (first | exact trivial | refine And.intro ?_ ?_ | omega)) (by omega) _ _ _)
      clear hK K hHeld
      have hHeld := hHeld2
      clear hHeld2
      try simp only [Act.put, a7, b7, c7]
      refine w8 13 ?_ (ga7 rfl) (by kernel_rfl) (fun _ _ _ h => h) ⟨by rfl, ?y5039⟩ hHeld ?_
      case y5039 => (intro wq hSw; (try simp only [Two, Kn, Facts, CellsAt] at hSw); go_simp; try with_reducible rfl)
      try simp only [Act.put, a7, b7, c7]
      refine wpAnyH_done (by kernel_rfl) ?_ _
      go_wp2_with fail
      go_meet
      case rel => exact ⟨_, rfl, rfl, (by omega), (by repeat (first | with_reducible exact Blk.new _ _ _ | with_reducible exact U5 | with_reducible refine Blk.put3 (x := .bool false) (y := .int .u64 0) (z := .int .u64 0) ?_ _ _ _)), hHeld⟩
 case rest =>
  obtain ⟨X, rfl, rfl, hX, N, R⟩ := hcut
  obtain ⟨x0, x1, x2, x3, x4, x5, x6⟩ := N.three
  obtain ⟨r0, r1, r2, r3, r4, r5, r6⟩ := R.2.1.1.three
  have B := R.bel
  have ne1 : ¬ X = w.heap.size := by omega
  clear R0 R N LT hs0 OF HO
  go_wp2
  refine bodyPost_ret (v := av v rh rl) (by simp [results, Tryz.results63, go_sem, World.cell?_setCell_same', World.cell?_setCell_other, *]) rfl ⟨rfl, by repeat (first | with_reducible exact Below.refl _ _ | with_reducible refine Below.drew ?_ | with_reducible refine Below.alloc ?_ (by first | omega | (simp <;> omega)) _ | with_reducible refine Below.setCell ?_ (by first | omega | (simp <;> omega)) _ | with_reducible refine Below.trans ?_ (Below.mono B (by first | omega | (simp <;> omega))))⟩

/-- host: the address of a number. -/
theorem host_c {v : Bool} {h l b rh rl : Int} {a x n i : Nat} (hp : IsNum h l n) (ok : okP v n b = true) (hi : i < szP v n b) (hr : IsNum rh rl (n + i)) (w : World)
  (hx : Blk w x #[.bool v, .int .u64 h, .int .u64 l, .int .i64 b, .pointer (some ⟨a, 0, none⟩)] 82) :
  Calls Tryz.prog 63 #[.pointer (some ⟨x, 0, none⟩), .int .i64 i] w fun e w' => e = .returned (av v rh rl) ∧ Below w.heap.size w w' := by
 obtain ⟨W, hW⟩ : ∃ W, widthA v = W := ⟨_, rfl⟩
 obtain ⟨hc, hlt, hblk⟩ := host_blk hW ok hi
 have le := szP_le (v := v) (n := n) (b := b)
 have ii : IsNum 0 (i : Int) i := ⟨by omega, by omega, by omega, by omega, by omega⟩
 exact host_w (by simp [IntKind.wrap, IntKind.bits, IntKind.signed]; omega) (fun w' => host_any hW (fun w1 => block_ok hp ii hc hlt (hr.cast hblk.symm) w1) w') w hx


theorem Blk.five {W : World} {b : Nat} {x y z u s : Value} {t : TypeId} (h : Blk W b #[x, y, z, u, s] t) : W.cell? ⟨b, 0, none⟩ = some x ∧ W.cell? ⟨b, 1, none⟩ = some y ∧ W.cell? ⟨b, 2, none⟩ = some z ∧ W.cell? ⟨b, 3, none⟩ = some u ∧ W.cell? ⟨b, 4, none⟩ = some s ∧ b < W.heap.size :=
 ⟨h.cell 0, h.cell 1, h.cell 2, h.cell 3, h.cell 4, h.lt⟩

/-- A pool. -/
structure PoAt (W : World) (v : Bool) (h l b : Int) (x a g N : Nat) (f : Nat → Bool) : Prop where
 hd : Blk W x #[.bool v, .int .u64 h, .int .u64 l, .int .i64 b, .pointer (some ⟨a, 0, none⟩)] 82
 m : MapB W a g N f

theorem PoAt.below {W W' : World} {v : Bool} {h l b : Int} {x a g N : Nat} {f : Nat → Bool} (P : PoAt W v h l b x a g N f) (k : Below W.heap.size W W') : PoAt W' v h l b x a g N f := ⟨P.hd.below k, P.m.below k⟩

theorem PoAt.ne {W : World} {v : Bool} {h l b : Int} {x a g N : Nat} {f : Nat → Bool} (P : PoAt W v h l b x a g N f) : a ≠ x ∧ g ≠ x := P.m.neOf P.hd (by decide) (by decide)

theorem PoAt.turn {W W' : World} {v : Bool} {h l b : Int} {x a g N : Nat} {f f' : Nat → Bool} (P : PoAt W v h l b x a g N f) (m' : MapB W' a g N f') (k : But [g] W.heap.size W W') : PoAt W' v h l b x a g N f' :=
 ⟨k.blk P.hd P.hd.lt (by simpa using P.ne.2.symm), m'⟩

theorem PoAt.head {W : World} {v : Bool} {h l b : Int} {x a g N : Nat} {f : Nat → Bool} (P : PoAt W v h l b x a g N f) : W.cell? ⟨a, 0, none⟩ = some (.int .i64 N) := by
 obtain ⟨⟨ws, hm, _⟩, _⟩ := P.m
 exact hm.head.cell 0

set_option maxHeartbeats 800000 in
theorem psize_c {v : Bool} {h l b : Int} {x a g N : Nat} {f : Nat → Bool} (w : World) (P : PoAt w v h l b x a g N f) :
  Calls Tryz.prog 15 #[.pointer (some ⟨x, 0, none⟩)] w fun e w' => e = .returned (.int .i64 N) ∧ w' = w := by
 obtain ⟨x0, x1, x2, x3, x4, xl⟩ := P.hd.five
 have SZ := hide (size_c a N w P.head)
 clear P
 go_enter Tryz.func15, Tryz.ntmps15
 go_wp2_with fail
 refine SZ.out.mono ?_
 rintro e w1 ⟨rfl, rfl⟩
 clear SZ
 go_wp2
 go_ret
 exact ⟨rfl, rfl⟩

theorem host_i {v : Bool} {h l b rh rl i : Int} {a x n k : Nat} (hp : IsNum h l n) (ok : okP v n b = true) (hik : i = (k : Int)) (hi : k < szP v n b) (hr : IsNum rh rl (n + k)) (w : World)
  (hx : Blk w x #[.bool v, .int .u64 h, .int .u64 l, .int .i64 b, .pointer (some ⟨a, 0, none⟩)] 82) :
  Calls Tryz.prog 63 #[.pointer (some ⟨x, 0, none⟩), .int .i64 i] w fun e w' => e = .returned (av v rh rl) ∧ Below w.heap.size w w' := by
 subst hik
 exact host_c hp ok hi hr w hx

set_option maxRecDepth 100000 in
set_option maxHeartbeats 1600000 in
theorem kept_v6 {h l b : Int} {x a g N : Nat} {f : Nat → Bool} (hN : 0 < N) (w : World) (P : PoAt w true h l b x a g N f) :
  Calls Tryz.prog 95 #[.pointer (some ⟨x, 0, none⟩)] w fun e w' => ∃ k, e = .returned (.slice (some ⟨k, 0, none⟩) 1 1) ∧ Blk w' k #[.int .i64 0] 3 ∧ w.heap.size ≤ k ∧ Below w.heap.size w w' := by
 obtain ⟨x0, x1, x2, x3, x4, xl⟩ := P.hd.five
 have SZ := hide (psize_c w P)
 have hN6 := P.m.lt.2.2.2
 have K0 : Kn w [(x, [.bool true, .int .u64 h, .int .u64 l, .int .i64 b, .pointer (some ⟨a, 0, none⟩)], 82)] w := (Kn.nil w).cons P.hd
 clear P
 go_enter Tryz.func95, Tryz.ntmps95
 go_wp2_with fail
 refine SZ.out.mono ?_
 rintro e w ⟨rfl, rfl⟩
 clear SZ
 go_wp2_with fail
 refine wp_region_held_drew (S := (Kn w [(x, [.bool true, .int .u64 h, .int .u64 l, .int .i64 b, .pointer (some ⟨a, 0, none⟩)], 82)])) (by kernel_rfl) ?hS100 (fun hHeld => ?rest100)
 case hS100 => (first | with_reducible exact K0.drew)
 refine w8 0 ?_ (ga7 rfl) (by kernel_rfl) (fun _ _ _ h => h) ⟨by rfl, ?y101⟩ hHeld ?_
 case y101 => (intro wq hSw; (try simp only [Two, Kn, Facts, CellsAt] at hSw); go_simp; try with_reducible rfl)
 try simp only [Act.put, a7, b7, c7]
 refine w8 1 ?_ (ga7 rfl) (by kernel_rfl) (fun _ _ _ h => h) ⟨by rfl, ?y102⟩ hHeld ?_
 case y102 => (intro wq hSw; (try simp only [Two, Kn, Facts, CellsAt] at hSw); go_simp; try with_reducible rfl)
 try simp only [Act.put, a7, b7, c7]
 refine w8 2 ?_ (ga7 rfl) (by kernel_rfl) (fun _ _ _ h => h) ⟨by rfl, ?y103⟩ hHeld ?_
 case y103 => (intro wq hSw; (try simp only [Two, Kn, Facts, CellsAt] at hSw); go_simp; try with_reducible rfl)
 try simp only [Act.put, a7, b7, c7]
 refine w8 3 ?_ (ga7 rfl) (by kernel_rfl) (fun _ _ _ h => h) ⟨by rfl, ?y104⟩ hHeld ?_
 case y104 => (intro wq hSw; (try simp only [Two, Kn, Facts, CellsAt] at hSw); go_simp; try with_reducible rfl)
 try simp only [Act.put, a7, b7, c7]
 refine w8 4 ?_ (ga7 rfl) (by kernel_rfl) (fun _ _ _ h => h) ⟨by rfl, ?y105⟩ hHeld ?_
 case y105 => (intro wq hSw; (try simp only [Two, Kn, Facts, CellsAt] at hSw); go_simp; try with_reducible rfl)
 try simp only [Act.put, a7, b7, c7]
 refine w8 5 ?_ (ga7 rfl) (by kernel_rfl) (fun _ _ _ h => h) ⟨by rfl, ?y106⟩ hHeld ?_
 case y106 => (intro wq hSw; (try simp only [Two, Kn, Facts, CellsAt] at hSw); go_simp; try with_reducible rfl)
 try simp only [Act.put, a7, b7, c7]
 refine w8 6 ?_ (ga7 rfl) (by kernel_rfl) (fun _ _ _ h => h) ⟨by rfl, ?y107⟩ hHeld ?_
 case y107 => (intro wq hSw; (try simp only [Two, Kn, Facts, CellsAt] at hSw); go_simp; try with_reducible rfl)
 try simp only [Act.put, a7, b7, c7]
 refine w8 7 ?_ (ga7 rfl) (by kernel_rfl) (fun _ _ _ h => h) ⟨by rfl, ?y108⟩ hHeld ?_
 case y108 => (intro wq hSw; (try simp only [Two, Kn, Facts, CellsAt] at hSw); go_simp; try with_reducible rfl)
 try simp only [Act.put, a7, b7, c7]
 refine wpAnyH_take (i := 8) (oi := _) (v := undef) (ga7 rfl) (by kernel_rfl) (by kernel_rfl) (by kernel_rfl) (fun _ _ _ h => h) (Or.inr ⟨by rfl, rfl⟩) (by assumption) ?rest109
 try simp only [Act.put, a7, b7, c7]
 refine wpAnyH_take (i := 9) (oi := _) (v := undef) (ga7 rfl) (by kernel_rfl) (by kernel_rfl) (by kernel_rfl) (fun _ _ _ h => h) (Or.inr ⟨by rfl, rfl⟩) (by assumption) ?rest110
 try simp only [Act.put, a7, b7, c7]
 refine wpAnyH_take (i := 10) (oi := _) (v := undef) (ga7 rfl) (by kernel_rfl) (by kernel_rfl) (by kernel_rfl) (fun _ _ _ h => h) (Or.inr ⟨by rfl, rfl⟩) (by assumption) ?rest111
 try simp only [Act.put, a7, b7, c7]
 refine wpAnyH_take (i := 11) (oi := _) (v := undef) (ga7 rfl) (by kernel_rfl) (by kernel_rfl) (by kernel_rfl) (fun _ _ _ h => h) (Or.inr ⟨by rfl, rfl⟩) (by assumption) ?rest112
 try simp only [Act.put, a7, b7, c7]
 refine wpAnyH_take (i := 12) (oi := _) (v := undef) (ga7 rfl) (by kernel_rfl) (by kernel_rfl) (by kernel_rfl) (fun _ _ _ h => h) (Or.inr ⟨by rfl, rfl⟩) (by assumption) ?rest113
 try simp only [Act.put, a7, b7, c7]
 refine wpAnyH_take (i := 13) (oi := _) (v := undef) (ga7 rfl) (by kernel_rfl) (by kernel_rfl) (by kernel_rfl) (fun _ _ _ h => h) (Or.inr ⟨by rfl, rfl⟩) (by assumption) ?rest114
 try simp only [Act.put, a7, b7, c7]
 refine wpAnyH_take (i := 14) (oi := _) (v := undef) (ga7 rfl) (by kernel_rfl) (by kernel_rfl) (by kernel_rfl) (fun _ _ _ h => h) (Or.inr ⟨by rfl, rfl⟩) (by assumption) ?rest115
 try simp only [Act.put, a7, b7, c7]
 refine wpAnyH_take (i := 15) (oi := _) (v := undef) (ga7 rfl) (by kernel_rfl) (by kernel_rfl) (by kernel_rfl) (fun _ _ _ h => h) (Or.inr ⟨by rfl, rfl⟩) (by assumption) ?rest116
 try simp only [Act.put, a7, b7, c7]
 refine wpAnyH_take (i := 16) (oi := _) (v := undef) (ga7 rfl) (by kernel_rfl) (by kernel_rfl) (by kernel_rfl) (fun _ _ _ h => h) (Or.inr ⟨by rfl, rfl⟩) (by assumption) ?rest117
 try simp only [Act.put, a7, b7, c7]
 refine w8 17 ?_ (ga7 rfl) (by kernel_rfl) (fun _ _ _ h => h) ⟨by rfl, ?y118⟩ hHeld ?_
 case y118 => (intro wq hSw; (try simp only [Two, Kn, Facts, CellsAt] at hSw); go_simp; try with_reducible rfl)
 try simp only [Act.put, a7, b7, c7]
 refine wpAnyH_done (by kernel_rfl) ?fin100 _
 have B := hHeld.bel
 clear hHeld K0
 go_wp2
 go_ret
 refine ⟨_, rfl, Blk.new _ _ _, B.size, by repeat (first | with_reducible exact Below.refl _ _ | with_reducible refine Below.drew ?_ | with_reducible refine Below.alloc ?_ (by first | omega | (simp <;> omega)) _ | with_reducible refine Below.setCell ?_ (by first | omega | (simp <;> omega)) _ | with_reducible refine Below.trans ?_ (Below.mono B (by first | omega | (simp <;> omega))))⟩

set_option maxRecDepth 100000 in
set_option maxHeartbeats 1600000 in
theorem kept_no {h l b rh rl lh ll : Int} {x a g N : Nat} {f : Nat → Bool} (hN : 0 < N) (hne : ¬ (rh = lh ∧ rl = ll)) (w : World) (P : PoAt w false h l b x a g N f)
  (HO : Hid (∀ w', Blk w' x #[.bool false, .int .u64 h, .int .u64 l, .int .i64 b, .pointer (some ⟨a, 0, none⟩)] 82 → Calls Tryz.prog 63 #[.pointer (some ⟨x, 0, none⟩), .int .i64 ((N : Int) - 1)] w' fun e w1 => e = .returned (av false rh rl) ∧ Below w'.heap.size w' w1))
  (LA : Hid (∀ w', Calls Tryz.prog 69 #[pv false h l b] w' fun e w1 => e = .returned (av false lh ll) ∧ Below w'.heap.size w' w1)) :
  Calls Tryz.prog 95 #[.pointer (some ⟨x, 0, none⟩)] w fun e w' => ∃ k, e = .returned (.slice (some ⟨k, 0, none⟩) 1 1) ∧ Blk w' k #[.int .i64 0] 3 ∧ w.heap.size ≤ k ∧ Below w.heap.size w w' := by
 obtain ⟨x0, x1, x2, x3, x4, xl⟩ := P.hd.five
 have SZ := hide (psize_c w P)
 have hN6 := P.m.lt.2.2.2
 have K0 : Kn w [(x, [.bool false, .int .u64 h, .int .u64 l, .int .i64 b, .pointer (some ⟨a, 0, none⟩)], 82)] w := (Kn.nil w).cons P.hd
 clear P
 go_enter Tryz.func95, Tryz.ntmps95
 go_wp2_with fail
 refine SZ.out.mono ?_
 rintro e w ⟨rfl, rfl⟩
 clear SZ
 go_wp2_with fail
 refine wp_region_held_drew (S := (Kn w [(x, [.bool false, .int .u64 h, .int .u64 l, .int .i64 b, .pointer (some ⟨a, 0, none⟩)], 82)])) (by kernel_rfl) ?hS200 (fun hHeld => ?rest200)
 case hS200 => with_reducible exact K0.drew
 refine w8 0 ?_ (ga7 rfl) (by kernel_rfl) (fun _ _ _ h => h) ⟨by rfl, ?y201⟩ hHeld ?_
 case y201 => (intro wq hSw; (try simp only [Two, Kn, Facts, CellsAt] at hSw); go_simp; try with_reducible rfl)
 try simp only [Act.put, a7, b7, c7]
 refine w8 1 ?_ (ga7 rfl) (by kernel_rfl) (fun _ _ _ h => h) ⟨by rfl, ?y202⟩ hHeld ?_
 case y202 => (intro wq hSw; (try simp only [Two, Kn, Facts, CellsAt] at hSw); go_simp; try with_reducible rfl)
 try simp only [Act.put, a7, b7, c7]
 refine w8 2 ?_ (ga7 rfl) (by kernel_rfl) (fun _ _ _ h => h) ⟨by rfl, ?y203⟩ hHeld ?_
 case y203 => (intro wq hSw; (try simp only [Two, Kn, Facts, CellsAt] at hSw); go_simp; try with_reducible rfl)
 try simp only [Act.put, a7, b7, c7]
 refine w8 3 ?_ (ga7 rfl) (by kernel_rfl) (fun _ _ _ h => h) ⟨by rfl, ?y204⟩ hHeld ?_
 case y204 => (intro wq hSw; (try simp only [Two, Kn, Facts, CellsAt] at hSw); go_simp; try with_reducible rfl)
 try simp only [Act.put, a7, b7, c7]
 refine w8 4 ?_ (ga7 rfl) (by kernel_rfl) (fun _ _ _ h => h) ⟨by rfl, ?y205⟩ hHeld ?_
 case y205 => (intro wq hSw; (try simp only [Two, Kn, Facts, CellsAt] at hSw); go_simp; try with_reducible rfl)
 try simp only [Act.put, a7, b7, c7]
 refine w8 5 ?_ (ga7 rfl) (by kernel_rfl) (fun _ _ _ h => h) ⟨by rfl, ?y206⟩ hHeld ?_
 case y206 => (intro wq hSw; (try simp only [Two, Kn, Facts, CellsAt] at hSw); go_simp; try with_reducible rfl)
 try simp only [Act.put, a7, b7, c7]
 refine w8 6 ?_ (ga7 rfl) (by kernel_rfl) (fun _ _ _ h => h) ⟨by rfl, ?y207⟩ hHeld ?_
 case y207 => (intro wq hSw; (try simp only [Two, Kn, Facts, CellsAt] at hSw); go_simp; try with_reducible rfl)
 try simp only [Act.put, a7, b7, c7]
 refine w8 7 ?_ (ga7 rfl) (by kernel_rfl) (fun _ _ _ h => h) ⟨by rfl, ?y208⟩ hHeld ?_
 case y208 => (intro wq hSw; (try simp only [Two, Kn, Facts, CellsAt] at hSw); go_simp; try with_reducible rfl)
 try simp only [Act.put, a7, b7, c7]
 refine w8 8 ?_ (ga7 rfl) (by kernel_rfl) (fun _ _ _ h => h) ⟨by rfl, ?y209⟩ hHeld ?_
 case y209 => (intro wq hSw; (try simp only [Two, Kn, Facts, CellsAt] at hSw); go_simp; try with_reducible rfl)
 try simp only [Act.put, a7, b7, c7]
 refine w8 9 ?_ (ga7 rfl) (by kernel_rfl) (fun _ _ _ h => h) ⟨by rfl, ?y210⟩ hHeld ?_
 case y210 => (intro wq hSw; (try simp only [Two, Kn, Facts, CellsAt] at hSw); go_simp; try with_reducible rfl)
 try simp only [Act.put, a7, b7, c7]
 refine w8 11 ?_ (ga7 rfl) (by kernel_rfl) (fun _ _ _ h => h) ⟨by rfl, ?y211⟩ hHeld ?_
 case y211 => (intro wq hSw; (try simp only [Two, Kn, Facts, CellsAt] at hSw); go_simp; try with_reducible rfl)
 try simp only [Act.put, a7, b7, c7]
 refine w8 12 ?_ (ga7 rfl) (by kernel_rfl) (fun _ _ _ h => h) ⟨by rfl, ?y212⟩ hHeld ?_
 case y212 => (intro wq hSw; (try simp only [Two, Kn, Facts, CellsAt] at hSw); go_simp; try with_reducible rfl)
 try simp only [Act.put, a7, b7, c7]
 refine w8 13 ?_ (ga7 rfl) (by kernel_rfl) (fun _ _ _ h => h) ⟨by rfl, ?y213⟩ hHeld ?_
 case y213 => (intro wq hSw; (try simp only [Two, Kn, Facts, CellsAt] at hSw); go_simp; try with_reducible rfl)
 try simp only [Act.put, a7, b7, c7]
 refine w8 14 ?_ (ga7 rfl) (by kernel_rfl) (fun _ _ _ h => h) ⟨by rfl, ?y214⟩ hHeld ?_
 case y214 => (intro wq hSw; (try simp only [Two, Kn, Facts, CellsAt] at hSw); go_simp; try with_reducible rfl)
 try simp only [Act.put, a7, b7, c7]
 refine wpAnyH_ready (rs := [10]) (by kernel_rfl) (by simp) ?rdy215
 refine AllReadyH.cons (ga7 rfl) (fun K hK => ?stp215) AllReadyH.nil
 go_simp
 go_wp2_with fail
 (refine (HO.out _ hHeld.2.1.1).mono ?_; rintro e w4 ⟨rfl, hb4⟩)
 go_wp2_with fail
 refine hK.out _ _ ?hSn215 (fun hHeld2 => ?rest215)
 case hSn215 => with_reducible exact hHeld.below hb4
 clear hK K hHeld
 have hHeld := hHeld2
 clear hHeld2
 try simp only [Act.put, a7, b7, c7]
 refine wpAnyH_ready (rs := [15]) (by kernel_rfl) (by simp) ?rdy216
 refine AllReadyH.cons (ga7 rfl) (fun K hK => ?stp216) AllReadyH.nil
 go_simp
 go_wp2_with fail
 (refine (LA.out _).mono ?_; rintro e w5 ⟨rfl, hb5⟩)
 go_wp2_with fail
 refine hK.out _ _ ?hSn216 (fun hHeld2 => ?rest216)
 case hSn216 => with_reducible exact hHeld.below hb5
 clear hK K hHeld
 have hHeld := hHeld2
 clear hHeld2
 try simp only [Act.put, a7, b7, c7]
 refine w8 16 ((.bool false)) (ga7 rfl) (by kernel_rfl) (fun _ _ _ h => h) ⟨by rfl, ?y217⟩ hHeld ?_
 case y217 => (intro wq hSw; (try simp only [Two, Kn, Facts, CellsAt] at hSw); go_simp; (exact fun c d => hne ⟨c, d⟩))
 try simp only [Act.put, a7, b7, c7]
 refine w8 17 ?_ (ga7 rfl) (by kernel_rfl) (fun _ _ _ h => h) ⟨by rfl, ?y218⟩ hHeld ?_
 case y218 => (intro wq hSw; (try simp only [Two, Kn, Facts, CellsAt] at hSw); go_simp; try with_reducible rfl)
 try simp only [Act.put, a7, b7, c7]
 refine wpAnyH_done (by kernel_rfl) ?fin200 _
 have B := hHeld.bel
 have hs := B.size
 clear hHeld K0 hb4 hb5 HO LA
 go_wp2
 go_ret
 refine ⟨_, rfl, Blk.new _ _ _, ?_, by repeat (first | with_reducible exact Below.refl _ _ | with_reducible refine Below.drew ?_ | with_reducible refine Below.alloc ?_ (by first | omega | (simp <;> omega)) _ | with_reducible refine Below.setCell ?_ (by first | omega | (simp <;> omega)) _ | with_reducible refine Below.trans ?_ (Below.mono B (by first | omega | (simp <;> omega))))⟩
 simpa using hs

set_option maxRecDepth 100000 in
set_option maxHeartbeats 1600000 in
theorem kept_two {h l b rh rl lh ll : Int} {x a g N : Nat} {f : Nat → Bool} (hN : 0 < N)  (w : World) (P : PoAt w false h l b x a g N f)
  (HO : Hid (∀ w', Blk w' x #[.bool false, .int .u64 h, .int .u64 l, .int .i64 b, .pointer (some ⟨a, 0, none⟩)] 82 → Calls Tryz.prog 63 #[.pointer (some ⟨x, 0, none⟩), .int .i64 ((N : Int) - 1)] w' fun e w1 => e = .returned (av false rh rl) ∧ Below w'.heap.size w' w1))
  (LA : Hid (∀ w', Calls Tryz.prog 69 #[pv false h l b] w' fun e w1 => e = .returned (av false rh rl) ∧ Below w'.heap.size w' w1)) :
  Calls Tryz.prog 95 #[.pointer (some ⟨x, 0, none⟩)] w fun e w' => ∃ k, e = .returned (.slice (some ⟨k, 0, none⟩) 2 2) ∧ Blk w' k #[.int .i64 0, .int .i64 ((N : Int) - 1)] 3 ∧ w.heap.size ≤ k ∧ Below w.heap.size w w' := by
 obtain ⟨x0, x1, x2, x3, x4, xl⟩ := P.hd.five
 have SZ := hide (psize_c w P)
 have hN6 := P.m.lt.2.2.2
 have K0 : Kn w [(x, [.bool false, .int .u64 h, .int .u64 l, .int .i64 b, .pointer (some ⟨a, 0, none⟩)], 82)] w := (Kn.nil w).cons P.hd
 clear P
 go_enter Tryz.func95, Tryz.ntmps95
 go_wp2_with fail
 refine SZ.out.mono ?_
 rintro e w ⟨rfl, rfl⟩
 clear SZ
 go_wp2_with fail
 refine wp_region_held_drew (S := (Kn w [(x, [.bool false, .int .u64 h, .int .u64 l, .int .i64 b, .pointer (some ⟨a, 0, none⟩)], 82)])) (by kernel_rfl) ?hS300 (fun hHeld => ?rest300)
 case hS300 => with_reducible exact K0.drew
 refine w8 0 ?_ (ga7 rfl) (by kernel_rfl) (fun _ _ _ h => h) ⟨by rfl, ?y301⟩ hHeld ?_
 case y301 => (intro wq hSw; (try simp only [Two, Kn, Facts, CellsAt] at hSw); go_simp; try with_reducible rfl)
 try simp only [Act.put, a7, b7, c7]
 refine w8 1 ?_ (ga7 rfl) (by kernel_rfl) (fun _ _ _ h => h) ⟨by rfl, ?y302⟩ hHeld ?_
 case y302 => (intro wq hSw; (try simp only [Two, Kn, Facts, CellsAt] at hSw); go_simp; try with_reducible rfl)
 try simp only [Act.put, a7, b7, c7]
 refine w8 2 ?_ (ga7 rfl) (by kernel_rfl) (fun _ _ _ h => h) ⟨by rfl, ?y303⟩ hHeld ?_
 case y303 => (intro wq hSw; (try simp only [Two, Kn, Facts, CellsAt] at hSw); go_simp; try with_reducible rfl)
 try simp only [Act.put, a7, b7, c7]
 refine w8 3 ?_ (ga7 rfl) (by kernel_rfl) (fun _ _ _ h => h) ⟨by rfl, ?y304⟩ hHeld ?_
 case y304 => (intro wq hSw; (try simp only [Two, Kn, Facts, CellsAt] at hSw); go_simp; try with_reducible rfl)
 try simp only [Act.put, a7, b7, c7]
 refine w8 4 ?_ (ga7 rfl) (by kernel_rfl) (fun _ _ _ h => h) ⟨by rfl, ?y305⟩ hHeld ?_
 case y305 => (intro wq hSw; (try simp only [Two, Kn, Facts, CellsAt] at hSw); go_simp; try with_reducible rfl)
 try simp only [Act.put, a7, b7, c7]
 refine w8 5 ?_ (ga7 rfl) (by kernel_rfl) (fun _ _ _ h => h) ⟨by rfl, ?y306⟩ hHeld ?_
 case y306 => (intro wq hSw; (try simp only [Two, Kn, Facts, CellsAt] at hSw); go_simp; try with_reducible rfl)
 try simp only [Act.put, a7, b7, c7]
 refine w8 6 ?_ (ga7 rfl) (by kernel_rfl) (fun _ _ _ h => h) ⟨by rfl, ?y307⟩ hHeld ?_
 case y307 => (intro wq hSw; (try simp only [Two, Kn, Facts, CellsAt] at hSw); go_simp; try with_reducible rfl)
 try simp only [Act.put, a7, b7, c7]
 refine w8 7 ?_ (ga7 rfl) (by kernel_rfl) (fun _ _ _ h => h) ⟨by rfl, ?y308⟩ hHeld ?_
 case y308 => (intro wq hSw; (try simp only [Two, Kn, Facts, CellsAt] at hSw); go_simp; try with_reducible rfl)
 try simp only [Act.put, a7, b7, c7]
 refine w8 8 ?_ (ga7 rfl) (by kernel_rfl) (fun _ _ _ h => h) ⟨by rfl, ?y309⟩ hHeld ?_
 case y309 => (intro wq hSw; (try simp only [Two, Kn, Facts, CellsAt] at hSw); go_simp; try with_reducible rfl)
 try simp only [Act.put, a7, b7, c7]
 refine w8 9 ?_ (ga7 rfl) (by kernel_rfl) (fun _ _ _ h => h) ⟨by rfl, ?y310⟩ hHeld ?_
 case y310 => (intro wq hSw; (try simp only [Two, Kn, Facts, CellsAt] at hSw); go_simp; try with_reducible rfl)
 try simp only [Act.put, a7, b7, c7]
 refine w8 11 ?_ (ga7 rfl) (by kernel_rfl) (fun _ _ _ h => h) ⟨by rfl, ?y311⟩ hHeld ?_
 case y311 => (intro wq hSw; (try simp only [Two, Kn, Facts, CellsAt] at hSw); go_simp; try with_reducible rfl)
 try simp only [Act.put, a7, b7, c7]
 refine w8 12 ?_ (ga7 rfl) (by kernel_rfl) (fun _ _ _ h => h) ⟨by rfl, ?y312⟩ hHeld ?_
 case y312 => (intro wq hSw; (try simp only [Two, Kn, Facts, CellsAt] at hSw); go_simp; try with_reducible rfl)
 try simp only [Act.put, a7, b7, c7]
 refine w8 13 ?_ (ga7 rfl) (by kernel_rfl) (fun _ _ _ h => h) ⟨by rfl, ?y313⟩ hHeld ?_
 case y313 => (intro wq hSw; (try simp only [Two, Kn, Facts, CellsAt] at hSw); go_simp; try with_reducible rfl)
 try simp only [Act.put, a7, b7, c7]
 refine w8 14 ?_ (ga7 rfl) (by kernel_rfl) (fun _ _ _ h => h) ⟨by rfl, ?y314⟩ hHeld ?_
 case y314 => (intro wq hSw; (try simp only [Two, Kn, Facts, CellsAt] at hSw); go_simp; try with_reducible rfl)
 try simp only [Act.put, a7, b7, c7]
 refine wpAnyH_ready (rs := [10]) (by kernel_rfl) (by simp) ?rdy315
 refine AllReadyH.cons (ga7 rfl) (fun K hK => ?stp315) AllReadyH.nil
 go_simp
 go_wp2_with fail
 (refine (HO.out _ hHeld.2.1.1).mono ?_; rintro e w4 ⟨rfl, hb4⟩)
 go_wp2_with fail
 refine hK.out _ _ ?hSn315 (fun hHeld2 => ?rest315)
 case hSn315 => with_reducible exact hHeld.below hb4
 clear hK K hHeld
 have hHeld := hHeld2
 clear hHeld2
 try simp only [Act.put, a7, b7, c7]
 refine wpAnyH_ready (rs := [15]) (by kernel_rfl) (by simp) ?rdy316
 refine AllReadyH.cons (ga7 rfl) (fun K hK => ?stp316) AllReadyH.nil
 go_simp
 go_wp2_with fail
 (refine (LA.out _).mono ?_; rintro e w5 ⟨rfl, hb5⟩)
 go_wp2_with fail
 refine hK.out _ _ ?hSn316 (fun hHeld2 => ?rest316)
 case hSn316 => with_reducible exact hHeld.below hb5
 clear hK K hHeld
 have hHeld := hHeld2
 clear hHeld2
 try simp only [Act.put, a7, b7, c7]
 refine w8 16 ?_ (ga7 rfl) (by kernel_rfl) (fun _ _ _ h => h) ⟨by rfl, ?y317⟩ hHeld ?_
 case y317 => (intro wq hSw; (try simp only [Two, Kn, Facts, CellsAt] at hSw); go_simp; try with_reducible rfl)
 try simp only [Act.put, a7, b7, c7]
 refine w8 17 ?_ (ga7 rfl) (by kernel_rfl) (fun _ _ _ h => h) ⟨by rfl, ?y318⟩ hHeld ?_
 case y318 => (intro wq hSw; (try simp only [Two, Kn, Facts, CellsAt] at hSw); go_simp; try with_reducible rfl)
 try simp only [Act.put, a7, b7, c7]
 refine wpAnyH_done (by kernel_rfl) ?fin300 _
 have B := hHeld.bel
 have hs := B.size
 clear hHeld K0 hb4 hb5 HO LA
 go_wp2
 go_ret
 refine ⟨_, rfl, Blk.new _ _ _, ?_, by repeat (first | with_reducible exact Below.refl _ _ | with_reducible refine Below.drew ?_ | with_reducible refine Below.alloc ?_ (by first | omega | (simp <;> omega)) _ | with_reducible refine Below.setCell ?_ (by first | omega | (simp <;> omega)) _ | with_reducible refine Below.trans ?_ (Below.mono B (by first | omega | (simp <;> omega))))⟩
 simpa using hs

/-- What kept tells, as numbers. -/
def kpL (lk : Bool) (N : Nat) : List Nat := if lk then [0, N - 1] else [0]

theorem kept_c {v : Bool} {h l b : Int} {x a g n : Nat} {f : Nat → Bool} (hp : IsNum h l n) (h0 : 0 < szP v n b) (w : World) (P : PoAt w v h l b x a g (szP v n b) f) :
  Calls Tryz.prog 95 #[.pointer (some ⟨x, 0, none⟩)] w fun e w' => ∃ k, e = .returned (.slice (some ⟨k, 0, none⟩) (kpL (lkP v b) (szP v n b)).length (kpL (lkP v b) (szP v n b)).length) ∧ Blk w' k (((kpL (lkP v b) (szP v n b)).map fun i : Nat => Value.int .i64 (i : Int))).toArray 3 ∧ w.heap.size ≤ k ∧ Below w.heap.size w w' := by
 have ok := szP_ok h0
 cases v
 ·have lt := host_lt hp.lt ok (show szP false n b - 1 < szP false n b by omega)
  obtain ⟨rh, rl, hr⟩ := IsNum.ex (n := n + (szP false n b - 1)) lt.1
  obtain ⟨lh, ll, hl⟩ := IsNum.ex (n := lastN false n b) (lastN_small ok hp.lt).1
  have HO : Hid (∀ w', Blk w' x #[.bool false, .int .u64 h, .int .u64 l, .int .i64 b, .pointer (some ⟨a, 0, none⟩)] 82 → Calls Tryz.prog 63 #[.pointer (some ⟨x, 0, none⟩), .int .i64 ((szP false n b : Int) - 1)] w' fun e w1 => e = .returned (av false rh rl) ∧ Below w'.heap.size w' w1) := fun w' hx => host_i hp ok (by omega) (show szP false n b - 1 < szP false n b by omega) hr w' hx
  cases hk : lkP false b
  ·refine kept_no h0 (fun c => ?_) w P HO (fun w' => last_ok hp ok hl w')
   have := (hr.inj hl).2 c
   rw [(last_host ok h0).1 this] at hk
   cases hk
  ·have e := (last_host ok h0).2 hk
   have := kept_two (rh := rh) (rl := rl) (lh := lh) (ll := ll) h0 w P HO (fun w' => last_ok hp ok (hr.cast e) w')
   refine this.mono ?_
   rintro e w' ⟨k, rfl, h1, h2⟩
   refine ⟨k, rfl, ?_, h2⟩
   have ee : ((szP false n b - 1 : Nat) : Int) = (szP false n b : Int) - 1 := by omega
   simp only [kpL, if_true, List.map_cons, List.map_nil, ee]
   exact h1
 ·have e : lkP true b = false := rfl
  rw [e]
  exact kept_v6 h0 w P

set_option maxHeartbeats 800000 in
theorem index_c (xs : List Nat) (hlen : xs.length ≤ 2) (k i : Nat) (hi : i ≤ 65536) (w : World) (hk : Blk w k (xs.map fun j : Nat => Value.int .i64 (j : Int)).toArray 3) :
  Calls Tryz.prog 137 #[.slice (some ⟨k, 0, none⟩) xs.length xs.length, .int .i64 i] w fun e w' => ∃ r : Int, e = .returned (.int .i64 r) ∧ (0 ≤ r ↔ i ∈ xs) ∧ w' = w := by
 obtain ⟨L, hL⟩ : ∃ L, xs.length = L := ⟨_, rfl⟩
 have XH := hide hL
 have KH := hide hk
 rw [hL]
 rw [hL] at hlen
 clear hk hL
 go_enter Tryz.func137, Tryz.ntmps137
 go_wp2_with fail
 go_loopw [8] (fun t wr => ∃ j : Nat, j ≤ L ∧ t = .int .i64 j ∧ Hid (∀ q, q < j → xs[q]? ≠ some i) ∧ wr = w) (fun t _ => L - (intOf t).toNat)
 case atStart => exact ⟨0, by omega, rfl, fun q hq => absurd hq (by omega), rfl⟩
 case round =>
  obtain ⟨j, hj, rfl, hq, rfl⟩ := hrel
  by_cases hlt : j < L
  ·have hlt' : (j : Int) < L := by omega
   obtain ⟨y, hy⟩ : ∃ y, xs[j]? = some y := ⟨_, List.getElem?_eq_getElem (by rw [XH.out]; exact hlt)⟩
   have c := KH.out.cell j
   simp only [List.getElem?_toArray, List.getElem?_map, hy, Option.map_some] at c
   by_cases e : y = i
   ·subst e
    have hin : y ∈ xs := List.mem_of_getElem? hy
    clear hq hy
    go_wp2
    go_ret
    exact ⟨_, rfl, ⟨fun _ => hin, fun _ => by omega⟩, rfl⟩
   ·have e' : ¬ (i : Int) = (y : Int) := by omega
    have hq' : Hid (∀ q, q < j + 1 → xs[q]? ≠ some i) := fun q hq1 => by
     by_cases e2 : q = j
     ·subst e2; rw [hy]; simpa using e
     ·exact hq.out q (by omega)
    clear hq hy e
    go_wp2
    go_roundw
    case rel => exact ⟨j + 1, by omega, by go_num, hq', by first | rfl | trivial⟩
    case measure => simp [intOf]; omega
  ·have hlt' : ¬ (j : Int) < L := by omega
   have nin : ¬ i ∈ xs := fun hm => by
    obtain ⟨q, hq1⟩ := List.mem_iff_getElem?.1 hm
    have : q < xs.length := by
     apply Classical.byContradiction
     intro c
     rw [List.getElem?_eq_none (by omega)] at hq1
     cases hq1
    rw [XH.out] at this
    exact hq.out q (by omega) hq1
   have NIN := hide nin
   clear hq nin
   go_wp2
   go_ret
   exact ⟨-1, rfl, Iff.intro (fun h => absurd h (by decide)) (fun h => absurd h NIN.out), rfl⟩

set_option maxHeartbeats 800000 in
theorem contains_c (xs : List Nat) (hlen : xs.length ≤ 2) (k i : Nat) (hi : i ≤ 65536) {t : Bool} (ht : decide (i ∈ xs) = t) (w : World) (hk : Blk w k (xs.map fun j : Nat => Value.int .i64 (j : Int)).toArray 3) :
  Calls Tryz.prog 105 #[.slice (some ⟨k, 0, none⟩) xs.length xs.length, .int .i64 i] w fun e w' => e = .returned (.bool t) ∧ w' = w := by
 have IX := hide (index_c xs hlen k i hi w hk)
 clear hk hi hlen
 go_enter Tryz.func105, Tryz.ntmps105
 go_wp2_with fail
 refine IX.out.mono ?_
 rintro e w1 ⟨r, rfl, hr, rfl⟩
 clear IX
 cases t
 ·have hr0 : ¬ 0 ≤ r := fun h => absurd (hr.1 h) (of_decide_eq_false ht)
  clear hr ht
  go_wp2
  go_ret
  exact ⟨by first | rfl | (simp; done) | (simp; omega) | simpa using hr0, rfl⟩
 ·have hr0 : 0 ≤ r := hr.2 (of_decide_eq_true ht)
  clear hr ht
  go_wp2
  go_ret
  exact ⟨by first | rfl | (simp; done) | (simp; omega) | simpa using hr0, rfl⟩


theorem kp_mem {lk : Bool} {N i : Nat} (h0 : 0 < N) : decide (i ∈ kpL lk N) = kpF lk N i := by
 unfold kpL kpF
 cases lk <;> simp

theorem kpL_len (lk : Bool) (N : Nat) : (kpL lk N).length ≤ 2 := by
 unfold kpL
 cases lk <;> simp

/-- What number keeps: the pool's head, the address that it was handed. -/
theorem nb_start {v : Bool} {h l b : Int} {x a : Nat} {s : Bool} {ah al : Int} (w : World) (hd : Blk w x #[.bool v, .int .u64 h, .int .u64 l, .int .i64 b, .pointer (some ⟨a, 0, none⟩)] 82) : Kn w [(w.heap.size, [.bool s, .int .u64 ah, .int .u64 al], 26), (x, [.bool v, .int .u64 h, .int .u64 l, .int .i64 b, .pointer (some ⟨a, 0, none⟩)], 82)] (w.alloc (.cells #[.bool s, .int .u64 ah, .int .u64 al] 26)) := ((Kn.nil w).cons hd).push rfl

/-- What number answers. -/
def nmI : Option Nat → Int
 | some i => i
 | none => 0

def nmE : Option Nat → Int
 | some _ => 0
 | none => 12

set_option maxRecDepth 100000 in
set_option maxHeartbeats 3200000 in
theorem numb_any {v s : Bool} {h l b ah al kh kl ec : Int} {x a g N : Nat} {f : Nat → Bool} {lk : Bool} {o : Option Nat} (hN : 0 < N) (w : World) (P0 : PoAt w v h l b x a g N f)
  (NM : Hid (∀ w', Calls Tryz.prog 104 #[pv v h l b, av s ah al] w' fun e w1 => e = .returned (.tuple #[nv kh kl, .int .i64 ec]) ∧ Below w'.heap.size w' w1))
  (KE : Hid (∀ w', PoAt w' v h l b x a g N f → Calls Tryz.prog 95 #[.pointer (some ⟨x, 0, none⟩)] w' fun e w1 => ∃ k, e = .returned (.slice (some ⟨k, 0, none⟩) (kpL lk N).length (kpL lk N).length) ∧ Blk w1 k (((kpL lk N).map fun i : Nat => Value.int .i64 (i : Int))).toArray 3 ∧ w'.heap.size ≤ k ∧ Below w'.heap.size w' w1))
  (CS : Hid ((ec = 12 ∧ o = none) ∨ (ec = 0 ∧ ∃ m : Int, (∀ w', Calls Tryz.prog 33 #[nv kh kl, nv 0 N] w' fun e w1 => e = .returned (.int .i64 m) ∧ Below w'.heap.size w' w1) ∧
   ((m = 0 ∧ o = none) ∨ (m = 1 ∧ o = none) ∨ (m = -1 ∧ ∃ i : Nat, i < N ∧ kl = (i : Int) ∧ ((kpF lk N i = true ∧ o = none) ∨ (kpF lk N i = false ∧ o = some i))))))) :
  Calls Tryz.prog 60 #[.pointer (some ⟨x, 0, none⟩), av s ah al] w fun e w' => e = .returned (.tuple #[.int .i64 (nmI o), .int .i64 (nmE o)]) ∧ Below w.heap.size w w' := by
 have P := hide P0
 have R0 := nb_start (s := s) (ah := ah) (al := al) w P0.hd
 have hxl := P0.hd.lt
 have hN6 := P0.m.lt.2.2.2
 have OF : Hid (∀ w', Calls Tryz.prog 34 #[.int .u64 N] w' fun e w1 => e = .returned (nv 0 N) ∧ Below w'.heap.size w' w1) := fun w' => of_w N w'
 have hwN : IntKind.u64.wrap (N : Int) = N := by simp [IntKind.wrap, IntKind.bits, IntKind.signed]; omega
 obtain ⟨w0, hw0⟩ : ∃ w0, w0 = w.alloc (.cells #[.bool s, .int .u64 ah, .int .u64 al] 26) := ⟨_, rfl⟩
 rw [← hw0] at R0
 have LT := R0.lts
 simp only [Lts] at LT
 have hs0 := R0.bel.size
 clear P0
 go_enter Tryz.func60, Tryz.ntmps60
 go_upto_region 3 with fail
 rw [← hw0]
 clear hw0
 go_cut [6, 7] (fun p t wc => ∃ X : Nat, p = .pointer (some ⟨X, 0, none⟩) ∧ t = .int .i64 ec ∧ w.heap.size < X ∧ Blk wc X #[.int .u64 kh, .int .u64 kl] 24 ∧ Kn w [(w.heap.size, [.bool s, .int .u64 ah, .int .u64 al], 26), (x, [.bool v, .int .u64 h, .int .u64 l, .int .i64 b, .pointer (some ⟨a, 0, none⟩)], 82)] wc)
 case first =>
  refine wp_region_held_drew (S := (Kn w [(w.heap.size, [.bool s, .int .u64 ah, .int .u64 al], 26), (x, [.bool v, .int .u64 h, .int .u64 l, .int .i64 b, .pointer (some ⟨a, 0, none⟩)], 82)])) (by kernel_rfl) ?hS5001 (fun hHeld => ?rest5001)
  case hS5001 => (first | with_reducible exact R0.drew | with_reducible exact (R0.alloc _).drew | with_reducible exact hHeld.below hb5 | with_reducible exact hHeld.alloc _ | with_reducible exact K5.alloc _ | with_reducible exact hHeld.far2 (by simp only [Off]; repeat' (first | exact trivial | refine And.intro ?_ ?_ | omega)) (by omega) _ _ | with_reducible exact K5.far2 (by simp only [Off]; repeat' (first | exact trivial | refine And.intro ?_ ?_ | omega)) (by omega) _ _ | with_reducible exact (K5.alloc _).far2 (by simp only [Off]; repeat' (first | exact trivial | refine And.intro ?_ ?_ | omega)) (by omega) _ _)
  refine w8 0 ?_ (ga7 rfl) (by kernel_rfl) (fun _ _ _ h => h) ⟨by rfl, ?y5002⟩ hHeld ?_
  case y5002 => (intro wq hSw; (try simp only [Two, Kn, Facts, CellsAt] at hSw); go_simp; try with_reducible rfl)
  try simp only [Act.put, a7, b7, c7]
  refine w8 1 ?_ (ga7 rfl) (by kernel_rfl) (fun _ _ _ h => h) ⟨by rfl, ?y5003⟩ hHeld ?_
  case y5003 => (intro wq hSw; (try simp only [Two, Kn, Facts, CellsAt] at hSw); go_simp; try with_reducible rfl)
  try simp only [Act.put, a7, b7, c7]
  refine w8 2 ?_ (ga7 rfl) (by kernel_rfl) (fun _ _ _ h => h) ⟨by rfl, ?y5004⟩ hHeld ?_
  case y5004 => (intro wq hSw; (try simp only [Two, Kn, Facts, CellsAt] at hSw); go_simp; try with_reducible rfl)
  try simp only [Act.put, a7, b7, c7]
  refine w8 3 ?_ (ga7 rfl) (by kernel_rfl) (fun _ _ _ h => h) ⟨by rfl, ?y5005⟩ hHeld ?_
  case y5005 => (intro wq hSw; (try simp only [Two, Kn, Facts, CellsAt] at hSw); go_simp; try with_reducible rfl)
  try simp only [Act.put, a7, b7, c7]
  refine w8 4 ?_ (ga7 rfl) (by kernel_rfl) (fun _ _ _ h => h) ⟨by rfl, ?y5006⟩ hHeld ?_
  case y5006 => (intro wq hSw; (try simp only [Two, Kn, Facts, CellsAt] at hSw); go_simp; try with_reducible rfl)
  try simp only [Act.put, a7, b7, c7]
  refine wpAnyH_ready (rs := [5, 9]) (by kernel_rfl) (by simp) ?rdy5007
  refine (AllReadyH.cons (ga7 rfl) (fun K hK => ?stp5007_5) (AllReadyH.cons (ga7 rfl) (fun K hK => ?stp5007_9) AllReadyH.nil))
  case stp5007_5 =>
   go_simp
   go_wp2_with fail
   (refine (NM.out _).mono ?_; rintro e w5 ⟨rfl, hb5⟩; have K5 := hHeld.below hb5; have s5 : w0.heap.size ≤ w5.heap.size := (by have := hb5.size; first | exact this | (simp at this; omega)); first | (have U5 : Blk w5 w0.heap.size #[.int .u64 0, .int .u64 0] 24 := Blk.via hb5 (Blk.new w0 #[.int .u64 0, .int .u64 0] 24) rfl; obtain ⟨u0, u1, u2, u3, u4⟩ := U5.two) | skip)
   go_wp2_with fail
   refine hK.out _ _ ?hSn5008 (fun hHeld2 => ?rest5008)
   case hSn5008 => (first | with_reducible exact R0.drew | with_reducible exact (R0.alloc _).drew | with_reducible exact hHeld.below hb5 | with_reducible exact hHeld.alloc _ | with_reducible exact K5.alloc _ | with_reducible exact hHeld.far2 (by simp only [Off]; repeat' (first | exact trivial | refine And.intro ?_ ?_ | omega)) (by omega) _ _ | with_reducible exact K5.far2 (by simp only [Off]; repeat' (first | exact trivial | refine And.intro ?_ ?_ | omega)) (by omega) _ _ | with_reducible exact (K5.alloc _).far2 (by simp only [Off]; repeat' (first | exact trivial | refine And.intro ?_ ?_ | omega)) (by omega) _ _)
   clear hK K hHeld
   have hHeld := hHeld2
   clear hHeld2
   try simp only [Act.put, a7, b7, c7]
   refine w8 6 ?_ (ga7 rfl) (by kernel_rfl) (fun _ _ _ h => h) ⟨by rfl, ?y5009⟩ hHeld ?_
   case y5009 => (intro wq hSw; (try simp only [Two, Kn, Facts, CellsAt] at hSw); go_simp; try with_reducible rfl)
   try simp only [Act.put, a7, b7, c7]
   refine w8 7 ?_ (ga7 rfl) (by kernel_rfl) (fun _ _ _ h => h) ⟨by rfl, ?y5010⟩ hHeld ?_
   case y5010 => (intro wq hSw; (try simp only [Two, Kn, Facts, CellsAt] at hSw); go_simp; try with_reducible rfl)
   try simp only [Act.put, a7, b7, c7]
   refine w8 8 ?_ (ga7 rfl) (by kernel_rfl) (fun _ _ _ h => h) ⟨by rfl, ?y5011⟩ hHeld ?_
   case y5011 => (intro wq hSw; (try simp only [Two, Kn, Facts, CellsAt] at hSw); go_simp; try with_reducible rfl)
   try simp only [Act.put, a7, b7, c7]
   refine wpAnyH_ready (rs := [9]) (by kernel_rfl) (by simp) ?rdy5012
   refine (AllReadyH.cons (ga7 rfl) (fun K hK => ?stp5012_9) AllReadyH.nil)
   case stp5012_9 =>
    go_simp
    go_wp2_with fail
    refine hK.out _ _ ?hSn5013 (fun hHeld2 => ?rest5013)
    case hSn5013 => (first | with_reducible exact R0.drew | with_reducible exact (R0.alloc _).drew | with_reducible exact hHeld.below hb5 | with_reducible exact hHeld.alloc _ | with_reducible exact K5.alloc _ | with_reducible exact hHeld.far2 (by simp only [Off]; repeat' (first | exact trivial | refine And.intro ?_ ?_ | omega)) (by omega) _ _ | with_reducible exact K5.far2 (by simp only [Off]; repeat' (first | exact trivial | refine And.intro ?_ ?_ | omega)) (by omega) _ _ | with_reducible exact (K5.alloc _).far2 (by simp only [Off]; repeat' (first | exact trivial | refine And.intro ?_ ?_ | omega)) (by omega) _ _)
    clear hK K hHeld
    have hHeld := hHeld2
    clear hHeld2
    try simp only [Act.put, a7, b7, c7]
    refine wpAnyH_ready (rs := [10]) (by kernel_rfl) (by simp) ?rdy5014
    refine (AllReadyH.cons (ga7 rfl) (fun K hK => ?stp5014_10) AllReadyH.nil)
    case stp5014_10 =>
     go_simp
     go_wp2_with fail
     refine hK.out _ _ ?hSn5015 (fun hHeld2 => ?rest5015)
     case hSn5015 => (first | with_reducible exact R0.drew | with_reducible exact (R0.alloc _).drew | with_reducible exact hHeld.below hb5 | with_reducible exact hHeld.alloc _ | with_reducible exact K5.alloc _ | with_reducible exact hHeld.far2 (by simp only [Off]; repeat' (first | exact trivial | refine And.intro ?_ ?_ | omega)) (by omega) _ _ | with_reducible exact K5.far2 (by simp only [Off]; repeat' (first | exact trivial | refine And.intro ?_ ?_ | omega)) (by omega) _ _ | with_reducible exact (K5.alloc _).far2 (by simp only [Off]; repeat' (first | exact trivial | refine And.intro ?_ ?_ | omega)) (by omega) _ _)
     clear hK K hHeld
     have hHeld := hHeld2
     clear hHeld2
     try simp only [Act.put, a7, b7, c7]
     refine w8 11 ?_ (ga7 rfl) (by kernel_rfl) (fun _ _ _ h => h) ⟨by rfl, ?y5016⟩ hHeld ?_
     case y5016 => (intro wq hSw; (try simp only [Two, Kn, Facts, CellsAt] at hSw); go_simp; try with_reducible rfl)
     try simp only [Act.put, a7, b7, c7]
     refine wpAnyH_done (by kernel_rfl) ?_ _
     go_wp2_with fail
     go_meet
     case rel => exact ⟨_, rfl, rfl, (by omega), (by repeat (first | with_reducible exact Blk.new _ _ _ | with_reducible exact U5 | with_reducible refine Blk.put2 (x := .int .u64 0) (y := .int .u64 0) ?_ _ _)), hHeld⟩
  case stp5007_9 =>
   go_simp
   go_wp2_with fail
   refine hK.out _ _ ?hSn5017 (fun hHeld2 => ?rest5017)
   case hSn5017 => (first | with_reducible exact R0.drew | with_reducible exact (R0.alloc _).drew | with_reducible exact hHeld.below hb5 | with_reducible exact hHeld.alloc _ | with_reducible exact K5.alloc _ | with_reducible exact hHeld.far2 (by simp only [Off]; repeat' (first | exact trivial | refine And.intro ?_ ?_ | omega)) (by omega) _ _ | with_reducible exact K5.far2 (by simp only [Off]; repeat' (first | exact trivial | refine And.intro ?_ ?_ | omega)) (by omega) _ _ | with_reducible exact (K5.alloc _).far2 (by simp only [Off]; repeat' (first | exact trivial | refine And.intro ?_ ?_ | omega)) (by omega) _ _)
   clear hK K hHeld
   have hHeld := hHeld2
   clear hHeld2
   try simp only [Act.put, a7, b7, c7]
   refine wpAnyH_ready (rs := [5]) (by kernel_rfl) (by simp) ?rdy5018
   refine (AllReadyH.cons (ga7 rfl) (fun K hK => ?stp5018_5) AllReadyH.nil)
   case stp5018_5 =>
    go_simp
    go_wp2_with fail
    (refine (NM.out _).mono ?_; rintro e w5 ⟨rfl, hb5⟩; have K5 := hHeld.below hb5; have s5 : w0.heap.size ≤ w5.heap.size := (by have := hb5.size; first | exact this | (simp at this; omega)); first | (have U5 : Blk w5 w0.heap.size #[.int .u64 0, .int .u64 0] 24 := Blk.via hb5 (Blk.new w0 #[.int .u64 0, .int .u64 0] 24) rfl; obtain ⟨u0, u1, u2, u3, u4⟩ := U5.two) | skip)
    go_wp2_with fail
    refine hK.out _ _ ?hSn5019 (fun hHeld2 => ?rest5019)
    case hSn5019 => (first | with_reducible exact R0.drew | with_reducible exact (R0.alloc _).drew | with_reducible exact hHeld.below hb5 | with_reducible exact hHeld.alloc _ | with_reducible exact K5.alloc _ | with_reducible exact hHeld.far2 (by simp only [Off]; repeat' (first | exact trivial | refine And.intro ?_ ?_ | omega)) (by omega) _ _ | with_reducible exact K5.far2 (by simp only [Off]; repeat' (first | exact trivial | refine And.intro ?_ ?_ | omega)) (by omega) _ _ | with_reducible exact (K5.alloc _).far2 (by simp only [Off]; repeat' (first | exact trivial | refine And.intro ?_ ?_ | omega)) (by omega) _ _)
    clear hK K hHeld
    have hHeld := hHeld2
    clear hHeld2
    try simp only [Act.put, a7, b7, c7]
    refine w8 6 ?_ (ga7 rfl) (by kernel_rfl) (fun _ _ _ h => h) ⟨by rfl, ?y5020⟩ hHeld ?_
    case y5020 => (intro wq hSw; (try simp only [Two, Kn, Facts, CellsAt] at hSw); go_simp; try with_reducible rfl)
    try simp only [Act.put, a7, b7, c7]
    refine w8 7 ?_ (ga7 rfl) (by kernel_rfl) (fun _ _ _ h => h) ⟨by rfl, ?y5021⟩ hHeld ?_
    case y5021 => (intro wq hSw; (try simp only [Two, Kn, Facts, CellsAt] at hSw); go_simp; try with_reducible rfl)
    try simp only [Act.put, a7, b7, c7]
    refine w8 8 ?_ (ga7 rfl) (by kernel_rfl) (fun _ _ _ h => h) ⟨by rfl, ?y5022⟩ hHeld ?_
    case y5022 => (intro wq hSw; (try simp only [Two, Kn, Facts, CellsAt] at hSw); go_simp; try with_reducible rfl)
    try simp only [Act.put, a7, b7, c7]
    refine wpAnyH_ready (rs := [10]) (by kernel_rfl) (by simp) ?rdy5023
    refine (AllReadyH.cons (ga7 rfl) (fun K hK => ?stp5023_10) AllReadyH.nil)
    case stp5023_10 =>
     go_simp
     go_wp2_with fail
     refine hK.out _ _ ?hSn5024 (fun hHeld2 => ?rest5024)
     case hSn5024 => (first | with_reducible exact R0.drew | with_reducible exact (R0.alloc _).drew | with_reducible exact hHeld.below hb5 | with_reducible exact hHeld.alloc _ | with_reducible exact K5.alloc _ | with_reducible exact hHeld.far2 (by simp only [Off]; repeat' (first | exact trivial | refine And.intro ?_ ?_ | omega)) (by omega) _ _ | with_reducible exact K5.far2 (by simp only [Off]; repeat' (first | exact trivial | refine And.intro ?_ ?_ | omega)) (by omega) _ _ | with_reducible exact (K5.alloc _).far2 (by simp only [Off]; repeat' (first | exact trivial | refine And.intro ?_ ?_ | omega)) (by omega) _ _)
     clear hK K hHeld
     have hHeld := hHeld2
     clear hHeld2
     try simp only [Act.put, a7, b7, c7]
     refine w8 11 ?_ (ga7 rfl) (by kernel_rfl) (fun _ _ _ h => h) ⟨by rfl, ?y5025⟩ hHeld ?_
     case y5025 => (intro wq hSw; (try simp only [Two, Kn, Facts, CellsAt] at hSw); go_simp; try with_reducible rfl)
     try simp only [Act.put, a7, b7, c7]
     refine wpAnyH_done (by kernel_rfl) ?_ _
     go_wp2_with fail
     go_meet
     case rel => exact ⟨_, rfl, rfl, (by omega), (by repeat (first | with_reducible exact Blk.new _ _ _ | with_reducible exact U5 | with_reducible refine Blk.put2 (x := .int .u64 0) (y := .int .u64 0) ?_ _ _)), hHeld⟩
 case rest =>
  obtain ⟨X, rfl, rfl, hX, N1, R⟩ := hcut
  have K1 := R.cons N1
  clear R0 LT hs0 NM N1 R
  rcases CS.out with ⟨rfl, rfl⟩ | ⟨rfl, m, CM0, hm⟩
  ·have B := K1.bel
   clear CS KE OF
   go_wp2_with fail
   refine wp_region_held_drew (S := (Kn w ((X, [.int .u64 kh, .int .u64 kl], 24) :: [(w.heap.size, [.bool s, .int .u64 ah, .int .u64 al], 26), (x, [.bool v, .int .u64 h, .int .u64 l, .int .i64 b, .pointer (some ⟨a, 0, none⟩)], 82)]))) (by kernel_rfl) ?hS100 (fun hHeld => ?rest100)
   case hS100 => (first | with_reducible exact K1.drew)
   refine w8 0 ?_ (ga7 rfl) (by kernel_rfl) (fun _ _ _ h => h) ⟨by rfl, ?y101⟩ hHeld ?_
   case y101 => (intro wq hSw; (try simp only [Two, Kn, Facts, CellsAt] at hSw); go_simp; try with_reducible rfl)
   try simp only [Act.put, a7, b7, c7]
   refine w8 1 ?_ (ga7 rfl) (by kernel_rfl) (fun _ _ _ h => h) ⟨by rfl, ?y102⟩ hHeld ?_
   case y102 => (intro wq hSw; (try simp only [Two, Kn, Facts, CellsAt] at hSw); go_simp; try with_reducible rfl)
   try simp only [Act.put, a7, b7, c7]
   refine w8 2 ?_ (ga7 rfl) (by kernel_rfl) (fun _ _ _ h => h) ⟨by rfl, ?y103⟩ hHeld ?_
   case y103 => (intro wq hSw; (try simp only [Two, Kn, Facts, CellsAt] at hSw); go_simp; try with_reducible rfl)
   try simp only [Act.put, a7, b7, c7]
   refine wpAnyH_take (i := 3) (oi := _) (v := undef) (ga7 rfl) (by kernel_rfl) (by kernel_rfl) (by kernel_rfl) (fun _ _ _ h => h) (Or.inr ⟨by rfl, rfl⟩) (by assumption) ?rest104
   try simp only [Act.put, a7, b7, c7]
   refine wpAnyH_take (i := 4) (oi := _) (v := undef) (ga7 rfl) (by kernel_rfl) (by kernel_rfl) (by kernel_rfl) (fun _ _ _ h => h) (Or.inr ⟨by rfl, rfl⟩) (by assumption) ?rest105
   try simp only [Act.put, a7, b7, c7]
   refine wpAnyH_take (i := 5) (oi := _) (v := undef) (ga7 rfl) (by kernel_rfl) (by kernel_rfl) (by kernel_rfl) (fun _ _ _ h => h) (Or.inr ⟨by rfl, rfl⟩) (by assumption) ?rest106
   try simp only [Act.put, a7, b7, c7]
   refine wpAnyH_take (i := 6) (oi := _) (v := undef) (ga7 rfl) (by kernel_rfl) (by kernel_rfl) (by kernel_rfl) (fun _ _ _ h => h) (Or.inr ⟨by rfl, rfl⟩) (by assumption) ?rest107
   try simp only [Act.put, a7, b7, c7]
   refine wpAnyH_take (i := 7) (oi := _) (v := undef) (ga7 rfl) (by kernel_rfl) (by kernel_rfl) (by kernel_rfl) (fun _ _ _ h => h) (Or.inr ⟨by rfl, rfl⟩) (by assumption) ?rest108
   try simp only [Act.put, a7, b7, c7]
   refine wpAnyH_take (i := 8) (oi := _) (v := undef) (ga7 rfl) (by kernel_rfl) (by kernel_rfl) (by kernel_rfl) (fun _ _ _ h => h) (Or.inr ⟨by rfl, rfl⟩) (by assumption) ?rest109
   try simp only [Act.put, a7, b7, c7]
   refine wpAnyH_take (i := 9) (oi := _) (v := undef) (ga7 rfl) (by kernel_rfl) (by kernel_rfl) (by kernel_rfl) (fun _ _ _ h => h) (Or.inr ⟨by rfl, rfl⟩) (by assumption) ?rest110
   try simp only [Act.put, a7, b7, c7]
   refine w8 10 ?_ (ga7 rfl) (by kernel_rfl) (fun _ _ _ h => h) ⟨by rfl, ?y111⟩ hHeld ?_
   case y111 => (intro wq hSw; (try simp only [Two, Kn, Facts, CellsAt] at hSw); go_simp; try with_reducible rfl)
   try simp only [Act.put, a7, b7, c7]
   refine wpAnyH_done (by kernel_rfl) ?fin100 _
   clear hHeld K1
   go_wp2
   go_ret2
   exact ⟨rfl, by repeat (first | with_reducible exact Below.refl _ _ | with_reducible refine Below.drew ?_ | with_reducible refine Below.alloc ?_ (by first | omega | (simp <;> omega)) _ | with_reducible refine Below.setCell ?_ (by first | omega | (simp <;> omega)) _ | with_reducible refine Below.trans ?_ (Below.mono B (by first | omega | (simp <;> omega))))⟩
  ·have CM := hide CM0
   clear CS CM0
   rcases hm with ⟨rfl, rfl⟩ | ⟨rfl, rfl⟩ | ⟨rfl, i, hi, rfl, hk⟩
   ·clear KE
    go_wp2_with fail
    refine wp_region_held_drew (S := (Kn w ((X, [.int .u64 kh, .int .u64 kl], 24) :: [(w.heap.size, [.bool s, .int .u64 ah, .int .u64 al], 26), (x, [.bool v, .int .u64 h, .int .u64 l, .int .i64 b, .pointer (some ⟨a, 0, none⟩)], 82)]))) (by kernel_rfl) ?hS200 (fun hHeld => ?rest200)
    case hS200 => with_reducible exact K1.drew
    refine w8 0 ?_ (ga7 rfl) (by kernel_rfl) (fun _ _ _ h => h) ⟨by rfl, ?y201⟩ hHeld ?_
    case y201 => (intro wq hSw; (try simp only [Two, Kn, Facts, CellsAt] at hSw); go_simp; try with_reducible rfl)
    try simp only [Act.put, a7, b7, c7]
    refine w8 1 ?_ (ga7 rfl) (by kernel_rfl) (fun _ _ _ h => h) ⟨by rfl, ?y202⟩ hHeld ?_
    case y202 => (intro wq hSw; (try simp only [Two, Kn, Facts, CellsAt] at hSw); go_simp; try with_reducible rfl)
    try simp only [Act.put, a7, b7, c7]
    refine w8 2 ?_ (ga7 rfl) (by kernel_rfl) (fun _ _ _ h => h) ⟨by rfl, ?y203⟩ hHeld ?_
    case y203 => (intro wq hSw; (try simp only [Two, Kn, Facts, CellsAt] at hSw); go_simp; try with_reducible rfl)
    try simp only [Act.put, a7, b7, c7]
    refine w8 3 ?_ (ga7 rfl) (by kernel_rfl) (fun _ _ _ h => h) ⟨by rfl, ?y204⟩ hHeld ?_
    case y204 => (intro wq hSw; (try simp only [Two, Kn, Facts, CellsAt] at hSw); go_simp; try with_reducible rfl)
    try simp only [Act.put, a7, b7, c7]
    refine w8 4 ?_ (ga7 rfl) (by kernel_rfl) (fun _ _ _ h => h) ⟨by rfl, ?y205⟩ hHeld ?_
    case y205 => (intro wq hSw; (try simp only [Two, Kn, Facts, CellsAt] at hSw); go_simp; try with_reducible rfl)
    try simp only [Act.put, a7, b7, c7]
    refine wpAnyH_ready (rs := [5]) (by kernel_rfl) (by simp) ?rdy206
    refine AllReadyH.cons (ga7 rfl) (fun K hK => ?stp206) AllReadyH.nil
    go_simp
    go_wp2_with fail
    (refine (psize_c _ (P.out.below hHeld.bel)).mono ?_; rintro e w3 ⟨rfl, rfl⟩)
    go_wp2_with fail
    refine hK.out _ _ ?hSn206 (fun hHeld2 => ?rest206)
    case hSn206 => (first | with_reducible exact K1.drew | with_reducible exact hHeld)
    clear hK K hHeld
    have hHeld := hHeld2
    clear hHeld2
    try simp only [Act.put, a7, b7, c7]
    refine w8 6 ?_ (ga7 rfl) (by kernel_rfl) (fun _ _ _ h => h) ⟨by rfl, ?y207⟩ hHeld ?_
    case y207 => (intro wq hSw; (try simp only [Two, Kn, Facts, CellsAt] at hSw); go_simp; try with_reducible rfl)
    try simp only [Act.put, a7, b7, c7]
    refine wpAnyH_ready (rs := [7]) (by kernel_rfl) (by simp) ?rdy208
    refine AllReadyH.cons (ga7 rfl) (fun K hK => ?stp208) AllReadyH.nil
    go_simp
    go_wp2_with fail
    (refine (OF.out _).mono ?_; rintro e w4 ⟨rfl, hb4⟩)
    go_wp2_with fail
    refine hK.out _ _ ?hSn208 (fun hHeld2 => ?rest208)
    case hSn208 => with_reducible exact hHeld.below hb4
    clear hK K hHeld
    have hHeld := hHeld2
    clear hHeld2
    try simp only [Act.put, a7, b7, c7]
    refine wpAnyH_ready (rs := [8]) (by kernel_rfl) (by simp) ?rdy209
    refine AllReadyH.cons (ga7 rfl) (fun K hK => ?stp209) AllReadyH.nil
    go_simp
    go_wp2_with fail
    (refine (CM.out _).mono ?_; rintro e w5 ⟨rfl, hb5⟩)
    go_wp2_with fail
    refine hK.out _ _ ?hSn209 (fun hHeld2 => ?rest209)
    case hSn209 => with_reducible exact hHeld.below hb5
    clear hK K hHeld
    have hHeld := hHeld2
    clear hHeld2
    try simp only [Act.put, a7, b7, c7]
    refine w8 9 ?_ (ga7 rfl) (by kernel_rfl) (fun _ _ _ h => h) ⟨by rfl, ?y210⟩ hHeld ?_
    case y210 => (intro wq hSw; (try simp only [Two, Kn, Facts, CellsAt] at hSw); go_simp; try with_reducible rfl)
    try simp only [Act.put, a7, b7, c7]
    refine w8 10 ?_ (ga7 rfl) (by kernel_rfl) (fun _ _ _ h => h) ⟨by rfl, ?y211⟩ hHeld ?_
    case y211 => (intro wq hSw; (try simp only [Two, Kn, Facts, CellsAt] at hSw); go_simp; try with_reducible rfl)
    try simp only [Act.put, a7, b7, c7]
    refine wpAnyH_done (by kernel_rfl) ?fin200 _
    have B := hHeld.bel
    clear hHeld K1 OF CM hb4 hb5
    go_wp2
    go_ret2
    exact ⟨rfl, by repeat (first | with_reducible exact Below.refl _ _ | with_reducible refine Below.drew ?_ | with_reducible refine Below.alloc ?_ (by first | omega | (simp <;> omega)) _ | with_reducible refine Below.setCell ?_ (by first | omega | (simp <;> omega)) _ | with_reducible refine Below.trans ?_ (Below.mono B (by first | omega | (simp <;> omega))))⟩
   ·clear KE
    go_wp2_with fail
    refine wp_region_held_drew (S := (Kn w ((X, [.int .u64 kh, .int .u64 kl], 24) :: [(w.heap.size, [.bool s, .int .u64 ah, .int .u64 al], 26), (x, [.bool v, .int .u64 h, .int .u64 l, .int .i64 b, .pointer (some ⟨a, 0, none⟩)], 82)]))) (by kernel_rfl) ?hS300 (fun hHeld => ?rest300)
    case hS300 => with_reducible exact K1.drew
    refine w8 0 ?_ (ga7 rfl) (by kernel_rfl) (fun _ _ _ h => h) ⟨by rfl, ?y301⟩ hHeld ?_
    case y301 => (intro wq hSw; (try simp only [Two, Kn, Facts, CellsAt] at hSw); go_simp; try with_reducible rfl)
    try simp only [Act.put, a7, b7, c7]
    refine w8 1 ?_ (ga7 rfl) (by kernel_rfl) (fun _ _ _ h => h) ⟨by rfl, ?y302⟩ hHeld ?_
    case y302 => (intro wq hSw; (try simp only [Two, Kn, Facts, CellsAt] at hSw); go_simp; try with_reducible rfl)
    try simp only [Act.put, a7, b7, c7]
    refine w8 2 ?_ (ga7 rfl) (by kernel_rfl) (fun _ _ _ h => h) ⟨by rfl, ?y303⟩ hHeld ?_
    case y303 => (intro wq hSw; (try simp only [Two, Kn, Facts, CellsAt] at hSw); go_simp; try with_reducible rfl)
    try simp only [Act.put, a7, b7, c7]
    refine w8 3 ?_ (ga7 rfl) (by kernel_rfl) (fun _ _ _ h => h) ⟨by rfl, ?y304⟩ hHeld ?_
    case y304 => (intro wq hSw; (try simp only [Two, Kn, Facts, CellsAt] at hSw); go_simp; try with_reducible rfl)
    try simp only [Act.put, a7, b7, c7]
    refine w8 4 ?_ (ga7 rfl) (by kernel_rfl) (fun _ _ _ h => h) ⟨by rfl, ?y305⟩ hHeld ?_
    case y305 => (intro wq hSw; (try simp only [Two, Kn, Facts, CellsAt] at hSw); go_simp; try with_reducible rfl)
    try simp only [Act.put, a7, b7, c7]
    refine wpAnyH_ready (rs := [5]) (by kernel_rfl) (by simp) ?rdy306
    refine AllReadyH.cons (ga7 rfl) (fun K hK => ?stp306) AllReadyH.nil
    go_simp
    go_wp2_with fail
    (refine (psize_c _ (P.out.below hHeld.bel)).mono ?_; rintro e w3 ⟨rfl, rfl⟩)
    go_wp2_with fail
    refine hK.out _ _ ?hSn306 (fun hHeld2 => ?rest306)
    case hSn306 => (first | with_reducible exact K1.drew | with_reducible exact hHeld)
    clear hK K hHeld
    have hHeld := hHeld2
    clear hHeld2
    try simp only [Act.put, a7, b7, c7]
    refine w8 6 ?_ (ga7 rfl) (by kernel_rfl) (fun _ _ _ h => h) ⟨by rfl, ?y307⟩ hHeld ?_
    case y307 => (intro wq hSw; (try simp only [Two, Kn, Facts, CellsAt] at hSw); go_simp; try with_reducible rfl)
    try simp only [Act.put, a7, b7, c7]
    refine wpAnyH_ready (rs := [7]) (by kernel_rfl) (by simp) ?rdy308
    refine AllReadyH.cons (ga7 rfl) (fun K hK => ?stp308) AllReadyH.nil
    go_simp
    go_wp2_with fail
    (refine (OF.out _).mono ?_; rintro e w4 ⟨rfl, hb4⟩)
    go_wp2_with fail
    refine hK.out _ _ ?hSn308 (fun hHeld2 => ?rest308)
    case hSn308 => with_reducible exact hHeld.below hb4
    clear hK K hHeld
    have hHeld := hHeld2
    clear hHeld2
    try simp only [Act.put, a7, b7, c7]
    refine wpAnyH_ready (rs := [8]) (by kernel_rfl) (by simp) ?rdy309
    refine AllReadyH.cons (ga7 rfl) (fun K hK => ?stp309) AllReadyH.nil
    go_simp
    go_wp2_with fail
    (refine (CM.out _).mono ?_; rintro e w5 ⟨rfl, hb5⟩)
    go_wp2_with fail
    refine hK.out _ _ ?hSn309 (fun hHeld2 => ?rest309)
    case hSn309 => with_reducible exact hHeld.below hb5
    clear hK K hHeld
    have hHeld := hHeld2
    clear hHeld2
    try simp only [Act.put, a7, b7, c7]
    refine w8 9 ?_ (ga7 rfl) (by kernel_rfl) (fun _ _ _ h => h) ⟨by rfl, ?y310⟩ hHeld ?_
    case y310 => (intro wq hSw; (try simp only [Two, Kn, Facts, CellsAt] at hSw); go_simp; try with_reducible rfl)
    try simp only [Act.put, a7, b7, c7]
    refine w8 10 ?_ (ga7 rfl) (by kernel_rfl) (fun _ _ _ h => h) ⟨by rfl, ?y311⟩ hHeld ?_
    case y311 => (intro wq hSw; (try simp only [Two, Kn, Facts, CellsAt] at hSw); go_simp; try with_reducible rfl)
    try simp only [Act.put, a7, b7, c7]
    refine wpAnyH_done (by kernel_rfl) ?fin300 _
    have B := hHeld.bel
    clear hHeld K1 OF CM hb4 hb5
    go_wp2
    go_ret2
    exact ⟨rfl, by repeat (first | with_reducible exact Below.refl _ _ | with_reducible refine Below.drew ?_ | with_reducible refine Below.alloc ?_ (by first | omega | (simp <;> omega)) _ | with_reducible refine Below.setCell ?_ (by first | omega | (simp <;> omega)) _ | with_reducible refine Below.trans ?_ (Below.mono B (by first | omega | (simp <;> omega))))⟩
   ·have hwi : IntKind.i64.wrap (i : Int) = i := by simp [IntKind.wrap, IntKind.bits, IntKind.signed]; omega
    have hi6 : i ≤ 65536 := by omega
    have HK := hide hk
    clear hk
    go_wp2_with fail
    refine wp_region_held_drew (S := (Kn w ((X, [.int .u64 kh, .int .u64 i], 24) :: [(w.heap.size, [.bool s, .int .u64 ah, .int .u64 al], 26), (x, [.bool v, .int .u64 h, .int .u64 l, .int .i64 b, .pointer (some ⟨a, 0, none⟩)], 82)]))) (by kernel_rfl) ?hS400 (fun hHeld => ?rest400)
    case hS400 => with_reducible exact K1.drew
    refine w8 0 ?_ (ga7 rfl) (by kernel_rfl) (fun _ _ _ h => h) ⟨by rfl, ?y401⟩ hHeld ?_
    case y401 => (intro wq hSw; (try simp only [Two, Kn, Facts, CellsAt] at hSw); go_simp; try with_reducible rfl)
    try simp only [Act.put, a7, b7, c7]
    refine w8 1 ?_ (ga7 rfl) (by kernel_rfl) (fun _ _ _ h => h) ⟨by rfl, ?y402⟩ hHeld ?_
    case y402 => (intro wq hSw; (try simp only [Two, Kn, Facts, CellsAt] at hSw); go_simp; try with_reducible rfl)
    try simp only [Act.put, a7, b7, c7]
    refine w8 2 ?_ (ga7 rfl) (by kernel_rfl) (fun _ _ _ h => h) ⟨by rfl, ?y403⟩ hHeld ?_
    case y403 => (intro wq hSw; (try simp only [Two, Kn, Facts, CellsAt] at hSw); go_simp; try with_reducible rfl)
    try simp only [Act.put, a7, b7, c7]
    refine w8 3 ?_ (ga7 rfl) (by kernel_rfl) (fun _ _ _ h => h) ⟨by rfl, ?y404⟩ hHeld ?_
    case y404 => (intro wq hSw; (try simp only [Two, Kn, Facts, CellsAt] at hSw); go_simp; try with_reducible rfl)
    try simp only [Act.put, a7, b7, c7]
    refine w8 4 ?_ (ga7 rfl) (by kernel_rfl) (fun _ _ _ h => h) ⟨by rfl, ?y405⟩ hHeld ?_
    case y405 => (intro wq hSw; (try simp only [Two, Kn, Facts, CellsAt] at hSw); go_simp; try with_reducible rfl)
    try simp only [Act.put, a7, b7, c7]
    refine wpAnyH_ready (rs := [5]) (by kernel_rfl) (by simp) ?rdy406
    refine AllReadyH.cons (ga7 rfl) (fun K hK => ?stp406) AllReadyH.nil
    go_simp
    go_wp2_with fail
    (refine (psize_c _ (P.out.below hHeld.bel)).mono ?_; rintro e w3 ⟨rfl, rfl⟩)
    go_wp2_with fail
    refine hK.out _ _ ?hSn406 (fun hHeld2 => ?rest406)
    case hSn406 => (first | with_reducible exact K1.drew | with_reducible exact hHeld)
    clear hK K hHeld
    have hHeld := hHeld2
    clear hHeld2
    try simp only [Act.put, a7, b7, c7]
    refine w8 6 ?_ (ga7 rfl) (by kernel_rfl) (fun _ _ _ h => h) ⟨by rfl, ?y407⟩ hHeld ?_
    case y407 => (intro wq hSw; (try simp only [Two, Kn, Facts, CellsAt] at hSw); go_simp; try with_reducible rfl)
    try simp only [Act.put, a7, b7, c7]
    refine wpAnyH_ready (rs := [7]) (by kernel_rfl) (by simp) ?rdy408
    refine AllReadyH.cons (ga7 rfl) (fun K hK => ?stp408) AllReadyH.nil
    go_simp
    go_wp2_with fail
    (refine (OF.out _).mono ?_; rintro e w4 ⟨rfl, hb4⟩)
    go_wp2_with fail
    refine hK.out _ _ ?hSn408 (fun hHeld2 => ?rest408)
    case hSn408 => with_reducible exact hHeld.below hb4
    clear hK K hHeld
    have hHeld := hHeld2
    clear hHeld2
    try simp only [Act.put, a7, b7, c7]
    refine wpAnyH_ready (rs := [8]) (by kernel_rfl) (by simp) ?rdy409
    refine AllReadyH.cons (ga7 rfl) (fun K hK => ?stp409) AllReadyH.nil
    go_simp
    go_wp2_with fail
    (refine (CM.out _).mono ?_; rintro e w5 ⟨rfl, hb5⟩)
    go_wp2_with fail
    refine hK.out _ _ ?hSn409 (fun hHeld2 => ?rest409)
    case hSn409 => with_reducible exact hHeld.below hb5
    clear hK K hHeld
    have hHeld := hHeld2
    clear hHeld2
    try simp only [Act.put, a7, b7, c7]
    refine w8 9 ?_ (ga7 rfl) (by kernel_rfl) (fun _ _ _ h => h) ⟨by rfl, ?y410⟩ hHeld ?_
    case y410 => (intro wq hSw; (try simp only [Two, Kn, Facts, CellsAt] at hSw); go_simp; try with_reducible rfl)
    try simp only [Act.put, a7, b7, c7]
    refine w8 10 ?_ (ga7 rfl) (by kernel_rfl) (fun _ _ _ h => h) ⟨by rfl, ?y411⟩ hHeld ?_
    case y411 => (intro wq hSw; (try simp only [Two, Kn, Facts, CellsAt] at hSw); go_simp; try with_reducible rfl)
    try simp only [Act.put, a7, b7, c7]
    refine wpAnyH_done (by kernel_rfl) ?fin400 _
    have F := hHeld.1
    simp only [Facts, CellsAt] at F
    have KB := hide hHeld.bel
    clear hHeld K1 OF CM hb4 hb5
    go_wp2_with fail
    refine (KE.out _ (P.out.below (by first | exact KB.out | exact KB.out.drew))).mono ?_
    rintro e w6 ⟨k, rfl, hk, hkl, hb⟩
    obtain ⟨t, ht, ho⟩ : ∃ t, kpF lk N i = t ∧ o = if t then none else some i := by
     rcases HK.out with ⟨h1, h2⟩ | ⟨h1, h2⟩
     ·exact ⟨true, h1, h2⟩
     ·exact ⟨false, h1, h2⟩
    have CT := hide (contains_c (kpL lk N) (kpL_len lk N) k i hi6 ((kp_mem hN).trans ht) w6 hk)
    have B6 := hide (KB.out.trans (hb.mono KB.out.size))
    clear KE hk hkl hb KB HK ht
    generalize (kpL lk N).length = L at *
    subst ho
    go_wp2_with fail
    refine CT.out.mono ?_
    rintro e w7 ⟨rfl, rfl⟩
    clear CT
    cases t
    ·go_wp2
     go_ret2
     exact ⟨rfl, B6.out⟩
    ·go_wp2
     go_ret2
     exact ⟨rfl, B6.out⟩


theorem number_c {v s : Bool} {h l b ah al : Int} {x a g n m : Nat} {f : Nat → Bool} (hp : IsNum h l n) (ha : IsNum ah al m) (h0 : 0 < szP v n b) (w : World) (P : PoAt w v h l b x a g (szP v n b) f) :
  Calls Tryz.prog 60 #[.pointer (some ⟨x, 0, none⟩), av s ah al] w fun e w' => e = .returned (.tuple #[.int .i64 (nmI (nmP v n b s m)), .int .i64 (nmE (nmP v n b s m))]) ∧ Below w.heap.size w w' := by
 have ok := szP_ok h0
 have le := szP_le (v := v) (n := n) (b := b)
 have nN : IsNum 0 (szP v n b : Int) (szP v n b) := ⟨by omega, by omega, by omega, by omega, by omega⟩
 cases hh : hasB v n b s m
 ·have e : nmP v n b s m = none := by unfold nmP; rw [if_neg (by rw [hh]; simp)]
  rw [e]
  exact numb_any h0 w P (fun w' => number_range hp ha ok hh w') (fun w' P' => kept_c hp h0 w' P') (Or.inl ⟨rfl, rfl⟩)
 ·obtain rfl := (has_parts hh).1
  obtain ⟨rh, rl, hr⟩ := IsNum.ex (n := m - n) (Nat.lt_of_le_of_lt (Nat.sub_le _ _) ha.lt)
  refine numb_any h0 w P (fun w' => number_ok hp ha hh hr w') (fun w' P' => kept_c hp h0 w' P') (Or.inr ⟨rfl, _, fun w' => num_cmp hr nN rfl w', ?_⟩)
  by_cases c1 : m - n < szP v n b
  ·refine Or.inr (Or.inr ⟨cmpI_lt (by omega), m - n, c1, ?_, ?_⟩)
   ·obtain ⟨x1, x2, x3, x4, x5⟩ := hr
    omega
   ·cases hk : kpF (lkP v b) (szP v n b) (m - n)
    ·exact Or.inr ⟨rfl, by unfold nmP; rw [if_pos ⟨hh, c1, hk⟩]⟩
    ·exact Or.inl ⟨rfl, by unfold nmP; rw [if_neg (by rw [hk]; simp)]⟩
  ·have e : nmP v n b v m = none := by unfold nmP; rw [if_neg (fun c => c1 c.2.1)]
   rw [e]
   by_cases c2 : m - n = szP v n b
   ·exact Or.inl ⟨cmpI_eq (by omega), rfl⟩
   ·exact Or.inr (Or.inl ⟨cmpI_gt (by omega), rfl⟩)

set_option maxHeartbeats 800000 in
theorem may_any {s : Bool} {ah al i c : Int} {p : Value} (w : World) (NB : Hid (∀ w', Below w.heap.size w w' → Calls Tryz.prog 60 #[p, av s ah al] w' fun e w1 => e = .returned (.tuple #[.int .i64 i, .int .i64 c]) ∧ Below w'.heap.size w' w1)) :
  Calls Tryz.prog 24 #[p, av s ah al] w fun e w' => e = .returned (.int .i64 c) ∧ Below w.heap.size w w' := by
 go_enter Tryz.func24, Tryz.ntmps24
 go_wp2_with fail
 refine (NB.out _ (by repeat (first | with_reducible exact Below.refl _ _ | with_reducible refine Below.drew ?_ | with_reducible refine Below.alloc ?_ (by first | omega | (simp <;> omega)) _ | with_reducible refine Below.setCell ?_ (by first | omega | (simp <;> omega)) _))).mono ?_
 rintro e w1 ⟨rfl, hb⟩
 have B : Below w.heap.size w w1 := by repeat (first | with_reducible exact Below.refl _ _ | with_reducible refine Below.drew ?_ | with_reducible refine Below.alloc ?_ (by first | omega | (simp <;> omega)) _ | with_reducible refine Below.setCell ?_ (by first | omega | (simp <;> omega)) _ | with_reducible refine Below.trans ?_ (Below.mono hb (by first | omega | (simp <;> omega))))
 have hs := B.size
 clear NB hb
 go_wp2
 go_ret
 exact ⟨rfl, by repeat (first | with_reducible exact Below.refl _ _ | with_reducible refine Below.drew ?_ | with_reducible refine Below.alloc ?_ (by first | omega | (simp <;> omega)) _ | with_reducible refine Below.setCell ?_ (by first | omega | (simp <;> omega)) _ | with_reducible refine Below.trans ?_ (Below.mono B (by first | omega | (simp <;> omega))))⟩

theorem may_c {v s : Bool} {h l b ah al : Int} {x a g n m : Nat} {f : Nat → Bool} (hp : IsNum h l n) (ha : IsNum ah al m) (h0 : 0 < szP v n b) (w : World) (P : PoAt w v h l b x a g (szP v n b) f) :
  Calls Tryz.prog 24 #[.pointer (some ⟨x, 0, none⟩), av s ah al] w fun e w' => e = .returned (.int .i64 (nmE (nmP v n b s m))) ∧ Below w.heap.size w w' :=
 may_any w (fun w' hb => number_c hp ha h0 w' (P.below hb))

set_option maxHeartbeats 800000 in
theorem poTake_no {s : Bool} {ah al i c : Int} {p : Value} (hc : ¬ c = 0) (w : World) (NB : Hid (∀ w', Below w.heap.size w w' → Calls Tryz.prog 60 #[p, av s ah al] w' fun e w1 => e = .returned (.tuple #[.int .i64 i, .int .i64 c]) ∧ Below w'.heap.size w' w1)) :
  Calls Tryz.prog 52 #[p, av s ah al] w fun e w' => e = .returned (.int .i64 c) ∧ Below w.heap.size w w' := by
 go_enter Tryz.func52, Tryz.ntmps52
 go_wp2_with fail
 refine (NB.out _ (by repeat (first | with_reducible exact Below.refl _ _ | with_reducible refine Below.drew ?_ | with_reducible refine Below.alloc ?_ (by first | omega | (simp <;> omega)) _ | with_reducible refine Below.setCell ?_ (by first | omega | (simp <;> omega)) _))).mono ?_
 rintro e w1 ⟨rfl, hb⟩
 have B : Below w.heap.size w w1 := by repeat (first | with_reducible exact Below.refl _ _ | with_reducible refine Below.drew ?_ | with_reducible refine Below.alloc ?_ (by first | omega | (simp <;> omega)) _ | with_reducible refine Below.setCell ?_ (by first | omega | (simp <;> omega)) _ | with_reducible refine Below.trans ?_ (Below.mono hb (by first | omega | (simp <;> omega))))
 have hs := B.size
 clear NB hb
 go_wp2
 go_ret
 exact ⟨rfl, by repeat (first | with_reducible exact Below.refl _ _ | with_reducible refine Below.drew ?_ | with_reducible refine Below.alloc ?_ (by first | omega | (simp <;> omega)) _ | with_reducible refine Below.setCell ?_ (by first | omega | (simp <;> omega)) _ | with_reducible refine Below.trans ?_ (Below.mono B (by first | omega | (simp <;> omega))))⟩

set_option maxHeartbeats 800000 in
theorem poFree_no {s : Bool} {ah al i c : Int} {p : Value} (hc : ¬ c = 0) (w : World) (NB : Hid (∀ w', Below w.heap.size w w' → Calls Tryz.prog 60 #[p, av s ah al] w' fun e w1 => e = .returned (.tuple #[.int .i64 i, .int .i64 c]) ∧ Below w'.heap.size w' w1)) :
  Calls Tryz.prog 54 #[p, av s ah al] w fun e w' => e = .returned (.int .i64 c) ∧ Below w.heap.size w w' := by
 go_enter Tryz.func54, Tryz.ntmps54
 go_wp2_with fail
 refine (NB.out _ (by repeat (first | with_reducible exact Below.refl _ _ | with_reducible refine Below.drew ?_ | with_reducible refine Below.alloc ?_ (by first | omega | (simp <;> omega)) _ | with_reducible refine Below.setCell ?_ (by first | omega | (simp <;> omega)) _))).mono ?_
 rintro e w1 ⟨rfl, hb⟩
 have B : Below w.heap.size w w1 := by repeat (first | with_reducible exact Below.refl _ _ | with_reducible refine Below.drew ?_ | with_reducible refine Below.alloc ?_ (by first | omega | (simp <;> omega)) _ | with_reducible refine Below.setCell ?_ (by first | omega | (simp <;> omega)) _ | with_reducible refine Below.trans ?_ (Below.mono hb (by first | omega | (simp <;> omega))))
 have hs := B.size
 clear NB hb
 go_wp2
 go_ret
 exact ⟨rfl, by repeat (first | with_reducible exact Below.refl _ _ | with_reducible refine Below.drew ?_ | with_reducible refine Below.alloc ?_ (by first | omega | (simp <;> omega)) _ | with_reducible refine Below.setCell ?_ (by first | omega | (simp <;> omega)) _ | with_reducible refine Below.trans ?_ (Below.mono B (by first | omega | (simp <;> omega))))⟩

set_option maxHeartbeats 800000 in
theorem poHas_no {s : Bool} {ah al i c : Int} {p : Value} (hc : ¬ c = 0) (w : World) (NB : Hid (∀ w', Below w.heap.size w w' → Calls Tryz.prog 60 #[p, av s ah al] w' fun e w1 => e = .returned (.tuple #[.int .i64 i, .int .i64 c]) ∧ Below w'.heap.size w' w1)) :
  Calls Tryz.prog 22 #[p, av s ah al] w fun e w' => e = .returned (.bool false) ∧ Below w.heap.size w w' := by
 go_enter Tryz.func22, Tryz.ntmps22
 go_wp2_with fail
 refine (NB.out _ (by repeat (first | with_reducible exact Below.refl _ _ | with_reducible refine Below.drew ?_ | with_reducible refine Below.alloc ?_ (by first | omega | (simp <;> omega)) _ | with_reducible refine Below.setCell ?_ (by first | omega | (simp <;> omega)) _))).mono ?_
 rintro e w1 ⟨rfl, hb⟩
 have B : Below w.heap.size w w1 := by repeat (first | with_reducible exact Below.refl _ _ | with_reducible refine Below.drew ?_ | with_reducible refine Below.alloc ?_ (by first | omega | (simp <;> omega)) _ | with_reducible refine Below.setCell ?_ (by first | omega | (simp <;> omega)) _ | with_reducible refine Below.trans ?_ (Below.mono hb (by first | omega | (simp <;> omega))))
 have hs := B.size
 clear NB hb
 go_wp2
 go_ret
 exact ⟨rfl, by repeat (first | with_reducible exact Below.refl _ _ | with_reducible refine Below.drew ?_ | with_reducible refine Below.alloc ?_ (by first | omega | (simp <;> omega)) _ | with_reducible refine Below.setCell ?_ (by first | omega | (simp <;> omega)) _ | with_reducible refine Below.trans ?_ (Below.mono B (by first | omega | (simp <;> omega))))⟩

set_option maxHeartbeats 1600000 in
theorem poTake_ok {v s : Bool} {h l b ah al : Int} {x a g N i : Nat} {f : Nat → Bool} (w : World) (P0 : PoAt w v h l b x a g N f) (NB : Hid (∀ w', Below w.heap.size w w' → Calls Tryz.prog 60 #[.pointer (some ⟨x, 0, none⟩), av s ah al] w' fun e w1 => e = .returned (.tuple #[.int .i64 i, .int .i64 0]) ∧ Below w'.heap.size w' w1)) :
  Calls Tryz.prog 52 #[.pointer (some ⟨x, 0, none⟩), av s ah al] w fun e w' => e = .returned (.int .i64 (putV N f i)) ∧ PoAt w' v h l b x a g N (putF N f i) ∧ But [g] w.heap.size w w' := by
 have PH := hide P0
 clear P0
 go_enter Tryz.func52, Tryz.ntmps52
 go_wp2_with fail
 refine (NB.out _ (by repeat (first | with_reducible exact Below.refl _ _ | with_reducible refine Below.drew ?_ | with_reducible refine Below.alloc ?_ (by first | omega | (simp <;> omega)) _ | with_reducible refine Below.setCell ?_ (by first | omega | (simp <;> omega)) _))).mono ?_
 rintro e w1 ⟨rfl, hb⟩
 have B : Below w.heap.size w w1 := by repeat (first | with_reducible exact Below.refl _ _ | with_reducible refine Below.drew ?_ | with_reducible refine Below.alloc ?_ (by first | omega | (simp <;> omega)) _ | with_reducible refine Below.setCell ?_ (by first | omega | (simp <;> omega)) _ | with_reducible refine Below.trans ?_ (Below.mono hb (by first | omega | (simp <;> omega))))
 have P1 := PH.out.below B
 obtain ⟨x0, x1, x2, x3, x4, xl⟩ := P1.hd.five
 have BH := hide B
 have PT := hide (put_any a g N f i w1 P1.m)
 have PH1 := hide P1
 clear NB hb B P1 PH
 go_wp2_with fail
 refine PT.out.mono ?_
 rintro e w2 ⟨rfl, hM, hK⟩
 have P2 := hide (PH1.out.turn hM hK)
 have K2 : Hid (But [g] w.heap.size w w2) := (But.of BH.out (Nat.le_refl _)).trans (hK.mono BH.out.size (fun x hx _ => hx))
 clear hM hK PT PH1 BH
 go_wp2
 go_ret
 exact ⟨rfl, P2.out, K2.out⟩

set_option maxHeartbeats 1600000 in
theorem poFree_ok {v s : Bool} {h l b ah al : Int} {x a g N i : Nat} {f : Nat → Bool} (w : World) (P0 : PoAt w v h l b x a g N f) (NB : Hid (∀ w', Below w.heap.size w w' → Calls Tryz.prog 60 #[.pointer (some ⟨x, 0, none⟩), av s ah al] w' fun e w1 => e = .returned (.tuple #[.int .i64 i, .int .i64 0]) ∧ Below w'.heap.size w' w1)) :
  Calls Tryz.prog 54 #[.pointer (some ⟨x, 0, none⟩), av s ah al] w fun e w' => e = .returned (.int .i64 (dropV N f i)) ∧ PoAt w' v h l b x a g N (dropF N f i) ∧ But [g] w.heap.size w w' := by
 have PH := hide P0
 clear P0
 go_enter Tryz.func54, Tryz.ntmps54
 go_wp2_with fail
 refine (NB.out _ (by repeat (first | with_reducible exact Below.refl _ _ | with_reducible refine Below.drew ?_ | with_reducible refine Below.alloc ?_ (by first | omega | (simp <;> omega)) _ | with_reducible refine Below.setCell ?_ (by first | omega | (simp <;> omega)) _))).mono ?_
 rintro e w1 ⟨rfl, hb⟩
 have B : Below w.heap.size w w1 := by repeat (first | with_reducible exact Below.refl _ _ | with_reducible refine Below.drew ?_ | with_reducible refine Below.alloc ?_ (by first | omega | (simp <;> omega)) _ | with_reducible refine Below.setCell ?_ (by first | omega | (simp <;> omega)) _ | with_reducible refine Below.trans ?_ (Below.mono hb (by first | omega | (simp <;> omega))))
 have P1 := PH.out.below B
 obtain ⟨x0, x1, x2, x3, x4, xl⟩ := P1.hd.five
 have BH := hide B
 have PT := hide (drop_any a g N f i w1 P1.m)
 have PH1 := hide P1
 clear NB hb B P1 PH
 go_wp2_with fail
 refine PT.out.mono ?_
 rintro e w2 ⟨rfl, hM, hK⟩
 have P2 := hide (PH1.out.turn hM hK)
 have K2 : Hid (But [g] w.heap.size w w2) := (But.of BH.out (Nat.le_refl _)).trans (hK.mono BH.out.size (fun x hx _ => hx))
 clear hM hK PT PH1 BH
 go_wp2
 go_ret
 exact ⟨rfl, P2.out, K2.out⟩

set_option maxHeartbeats 1600000 in
theorem poHas_ok {v s : Bool} {h l b ah al : Int} {x a g N i : Nat} {f : Nat → Bool} (hi : i < N) (w : World) (P0 : PoAt w v h l b x a g N f) (NB : Hid (∀ w', Below w.heap.size w w' → Calls Tryz.prog 60 #[.pointer (some ⟨x, 0, none⟩), av s ah al] w' fun e w1 => e = .returned (.tuple #[.int .i64 i, .int .i64 0]) ∧ Below w'.heap.size w' w1)) :
  Calls Tryz.prog 22 #[.pointer (some ⟨x, 0, none⟩), av s ah al] w fun e w' => e = .returned (.bool (f i)) ∧ Below w.heap.size w w' := by
 have PH := hide P0
 clear P0
 go_enter Tryz.func22, Tryz.ntmps22
 go_wp2_with fail
 refine (NB.out _ (by repeat (first | with_reducible exact Below.refl _ _ | with_reducible refine Below.drew ?_ | with_reducible refine Below.alloc ?_ (by first | omega | (simp <;> omega)) _ | with_reducible refine Below.setCell ?_ (by first | omega | (simp <;> omega)) _))).mono ?_
 rintro e w1 ⟨rfl, hb⟩
 have B : Below w.heap.size w w1 := by repeat (first | with_reducible exact Below.refl _ _ | with_reducible refine Below.drew ?_ | with_reducible refine Below.alloc ?_ (by first | omega | (simp <;> omega)) _ | with_reducible refine Below.setCell ?_ (by first | omega | (simp <;> omega)) _ | with_reducible refine Below.trans ?_ (Below.mono hb (by first | omega | (simp <;> omega))))
 have P1 := PH.out.below B
 obtain ⟨x0, x1, x2, x3, x4, xl⟩ := P1.hd.five
 have BH := hide B
 have PT := hide (bhas_ok a g N i f hi w1 P1.m)
 clear NB hb B P1 PH hi
 go_wp2_with fail
 refine PT.out.mono ?_
 rintro e w2 ⟨rfl, hb⟩
 have B2 := hide (BH.out.trans (hb.mono BH.out.size))
 clear hb PT BH
 go_wp2
 go_ret
 exact ⟨rfl, B2.out⟩

/-- What Take and Free answer, and leave; what Has tells. -/
def tkV (f : Nat → Bool) : Option Nat → Int
 | some i => if f i then 14 else 0
 | none => 12

def tkF (f : Nat → Bool) : Option Nat → Nat → Bool
 | some i => upd f i true
 | none => f

def frV (f : Nat → Bool) : Option Nat → Int
 | some i => if f i then 0 else 7
 | none => 12

def frF (f : Nat → Bool) : Option Nat → Nat → Bool
 | some i => upd f i false
 | none => f

def hsV (f : Nat → Bool) : Option Nat → Bool
 | some i => f i
 | none => false

theorem poTake_c {v s : Bool} {h l b ah al : Int} {x a g n m : Nat} {f : Nat → Bool} (hp : IsNum h l n) (ha : IsNum ah al m) (h0 : 0 < szP v n b) (w : World) (P : PoAt w v h l b x a g (szP v n b) f) :
  Calls Tryz.prog 52 #[.pointer (some ⟨x, 0, none⟩), av s ah al] w fun e w' => e = .returned (.int .i64 (tkV f (nmP v n b s m))) ∧ PoAt w' v h l b x a g (szP v n b) (tkF f (nmP v n b s m)) ∧ But [g] w.heap.size w w' := by
 have NB : ∀ o, nmP v n b s m = o → Hid (∀ w', Below w.heap.size w w' → Calls Tryz.prog 60 #[.pointer (some ⟨x, 0, none⟩), av s ah al] w' fun e w1 => e = .returned (.tuple #[.int .i64 (nmI o), .int .i64 (nmE o)]) ∧ Below w'.heap.size w' w1) := fun o e w' hb => e ▸ number_c hp ha h0 w' (P.below hb)
 cases e : nmP v n b s m with
 | none =>
  refine (poTake_no (by decide) w (NB _ e)).mono ?_
  rintro _ w' ⟨rfl, hb⟩
  exact ⟨rfl, P.below hb, But.of hb (Nat.le_refl _)⟩
 | some i =>
  have hi := (nmP_some e).2.2.1
  refine (poTake_ok (i := i) w P (NB _ e)).mono ?_
  rintro _ w' ⟨rfl, h1, h2⟩
  refine ⟨?_, ?_, h2⟩
  ·unfold putV tkV
   rw [if_pos (by omega), Int.toNat_natCast]
  ·unfold putF at h1
   rw [if_pos (by omega), Int.toNat_natCast] at h1
   exact h1

theorem poFree_c {v s : Bool} {h l b ah al : Int} {x a g n m : Nat} {f : Nat → Bool} (hp : IsNum h l n) (ha : IsNum ah al m) (h0 : 0 < szP v n b) (w : World) (P : PoAt w v h l b x a g (szP v n b) f) :
  Calls Tryz.prog 54 #[.pointer (some ⟨x, 0, none⟩), av s ah al] w fun e w' => e = .returned (.int .i64 (frV f (nmP v n b s m))) ∧ PoAt w' v h l b x a g (szP v n b) (frF f (nmP v n b s m)) ∧ But [g] w.heap.size w w' := by
 have NB : ∀ o, nmP v n b s m = o → Hid (∀ w', Below w.heap.size w w' → Calls Tryz.prog 60 #[.pointer (some ⟨x, 0, none⟩), av s ah al] w' fun e w1 => e = .returned (.tuple #[.int .i64 (nmI o), .int .i64 (nmE o)]) ∧ Below w'.heap.size w' w1) := fun o e w' hb => e ▸ number_c hp ha h0 w' (P.below hb)
 cases e : nmP v n b s m with
 | none =>
  refine (poFree_no (by decide) w (NB _ e)).mono ?_
  rintro _ w' ⟨rfl, hb⟩
  exact ⟨rfl, P.below hb, But.of hb (Nat.le_refl _)⟩
 | some i =>
  have hi := (nmP_some e).2.2.1
  refine (poFree_ok (i := i) w P (NB _ e)).mono ?_
  rintro _ w' ⟨rfl, h1, h2⟩
  refine ⟨?_, ?_, h2⟩
  ·unfold dropV frV
   rw [if_pos (by omega), Int.toNat_natCast]
  ·unfold dropF at h1
   rw [if_pos (by omega), Int.toNat_natCast] at h1
   exact h1

theorem poHas_c {v s : Bool} {h l b ah al : Int} {x a g n m : Nat} {f : Nat → Bool} (hp : IsNum h l n) (ha : IsNum ah al m) (h0 : 0 < szP v n b) (w : World) (P : PoAt w v h l b x a g (szP v n b) f) :
  Calls Tryz.prog 22 #[.pointer (some ⟨x, 0, none⟩), av s ah al] w fun e w' => e = .returned (.bool (hsV f (nmP v n b s m))) ∧ Below w.heap.size w w' := by
 have NB : ∀ o, nmP v n b s m = o → Hid (∀ w', Below w.heap.size w w' → Calls Tryz.prog 60 #[.pointer (some ⟨x, 0, none⟩), av s ah al] w' fun e w1 => e = .returned (.tuple #[.int .i64 (nmI o), .int .i64 (nmE o)]) ∧ Below w'.heap.size w' w1) := fun o e w' hb => e ▸ number_c hp ha h0 w' (P.below hb)
 cases e : nmP v n b s m with
 | none => exact poHas_no (by decide) w (NB _ e)
 | some i => exact poHas_ok (nmP_some e).2.2.1 w P (NB _ e)



/-- What is used, with the first k of those that are kept. -/
def uK (u : Nat → Bool) (lk : Bool) (N k : Nat) : Nat → Bool := fun p => u p || decide (p ∈ (kpL lk N).take k)

theorem uK_zero {u : Nat → Bool} {lk : Bool} {N : Nat} : uK u lk N 0 = u := by
 funext p
 simp [uK]

theorem uK_full {u : Nat → Bool} {lk : Bool} {N k : Nat} (h0 : 0 < N) (hk : (kpL lk N).length ≤ k) : uK u lk N k = fun p => u p || kpF lk N p := by
 funext p
 rw [← kp_mem h0]
 unfold uK
 rw [List.take_of_length_le hk]

theorem uK_get {u : Nat → Bool} {lk : Bool} {N k i : Nat} (h4 : 4 ≤ N) (hi : (kpL lk N)[k]? = some i) : uK u lk N k i = u i ∧ uK u lk N (k + 1) = upd (uK u lk N k) i true ∧ i < N := by
 cases lk
 ·match k, hi with
  | 0, hi =>
   simp [kpL] at hi
   subst hi
   refine ⟨by simp [uK, kpL], ?_, by omega⟩
   funext p
   unfold upd uK kpL
   by_cases c : p = 0 <;> simp [c]
  | k + 1, hi => simp [kpL] at hi
 ·match k, hi with
  | 0, hi =>
   simp [kpL] at hi
   subst hi
   refine ⟨by simp [uK, kpL], ?_, by omega⟩
   funext p
   unfold upd uK kpL
   by_cases c : p = 0 <;> simp [c]
  | 1, hi =>
   simp [kpL] at hi
   subst hi
   refine ⟨?_, ?_, by omega⟩
   ·unfold uK kpL
    simp
    omega
   ·funext p
    unfold upd uK kpL
    by_cases c : p = N - 1 <;> simp [c]
  | k + 2, hi => simp [kpL] at hi

/-- Is one that is kept used? -/
def badU (u : Nat → Bool) (lk : Bool) (N : Nat) : Prop := ∃ i, kpF lk N i = true ∧ u i = true

set_option maxRecDepth 100000 in
set_option maxHeartbeats 3200000 in
theorem withUsed_c {v : Bool} {h l b : Int} {a g n : Nat} {u : Nat → Bool} (hp : IsNum h l n) (h4 : 4 ≤ szP v n b) (w : World) (hM : MapB w a g (szP v n b) u) :
  Calls Tryz.prog 48 #[pv v h l b, .pointer (some ⟨a, 0, none⟩)] w fun e w' =>
   (¬ badU u (lkP v b) (szP v n b) ∧ e = .returned (.tuple #[.pointer (some ⟨w.heap.size + 1, 0, none⟩), .int .i64 0]) ∧ PoAt w' v h l b (w.heap.size + 1) a g (szP v n b) (fun p => u p || kpF (lkP v b) (szP v n b) p) ∧ But [g] w.heap.size w w') ∨
   (badU u (lkP v b) (szP v n b) ∧ e = .returned (.tuple #[.pointer none, .int .i64 1]) ∧ But [g] w.heap.size w w') := by
 have KE := fun w' f P' => kept_c (v := v) (b := b) (x := w.heap.size + 1) (a := a) (g := g) (f := f) hp (by omega) w' P'
 obtain ⟨N, hN⟩ : ∃ N, szP v n b = N := ⟨_, rfl⟩
 obtain ⟨lk, hlk⟩ : ∃ lk, lkP v b = lk := ⟨_, rfl⟩
 rw [hN] at KE hM h4 ⊢
 rw [hlk] at KE ⊢
 have KH := hide KE
 have l4 := hM.lt
 have MH := hide hM
 clear KE hM hp hN hlk
 go_enter Tryz.func48, Tryz.ntmps48
 go_wp2_with fail
 have P0 : PoAt ((w.alloc (.cells #[.bool v, .int .u64 h, .int .u64 l, .int .i64 b] 28)).alloc (.cells #[.bool v, .int .u64 h, .int .u64 l, .int .i64 b, .pointer (some ⟨a, 0, none⟩)] 82)) v h l b (w.heap.size + 1) a g N u :=
  ⟨by have := Blk.new (w.alloc (.cells #[.bool v, .int .u64 h, .int .u64 l, .int .i64 b] 28)) #[.bool v, .int .u64 h, .int .u64 l, .int .i64 b, .pointer (some ⟨a, 0, none⟩)] 82; simpa using this, MH.out.below (by repeat (first | with_reducible exact Below.refl _ _ | with_reducible refine Below.drew ?_ | with_reducible refine Below.alloc ?_ (by first | omega | (simp <;> omega)) _ | with_reducible refine Below.setCell ?_ (by first | omega | (simp <;> omega)) _))⟩
 have BL : Below w.heap.size w ((w.alloc (.cells #[.bool v, .int .u64 h, .int .u64 l, .int .i64 b] 28)).alloc (.cells #[.bool v, .int .u64 h, .int .u64 l, .int .i64 b, .pointer (some ⟨a, 0, none⟩)] 82)) := by repeat (first | with_reducible exact Below.refl _ _ | with_reducible refine Below.drew ?_ | with_reducible refine Below.alloc ?_ (by first | omega | (simp <;> omega)) _ | with_reducible refine Below.setCell ?_ (by first | omega | (simp <;> omega)) _)
 have KP := hide (KH.out _ _ P0)
 have PH := hide P0
 have BH := hide BL
 clear KH P0 BL MH
 refine KP.out.mono ?_
 rintro e w1 ⟨k, rfl, hk, hkl, hb⟩
 have P1 : Hid (PoAt w1 v h l b (w.heap.size + 1) a g N (uK u lk N 0)) := by rw [uK_zero]; exact PH.out.below hb
 have B1 : Hid (But [g] w.heap.size w w1) := But.of (BH.out.trans (hb.mono BH.out.size)) (Nat.le_refl _)
 have K1 := hide hk
 have kg : k ∉ [g] := by simp at hkl ⊢; omega
 obtain ⟨L, hL⟩ : ∃ L, (kpL lk N).length = L := ⟨_, rfl⟩
 have L2 : L ≤ 2 := hL ▸ kpL_len lk N
 have HL := hide hL
 rw [hL]
 clear hk hkl hb KP PH BH hL
 go_wp2_with fail
 go_loopw [16] (fun t wr => ∃ j : Nat, j ≤ L ∧ t = .int .i64 j ∧ Hid (PoAt wr v h l b (w.heap.size + 1) a g N (uK u lk N j)) ∧ Hid (But [g] w.heap.size w wr) ∧ Hid (Blk wr k (((kpL lk N).map fun i : Nat => Value.int .i64 (i : Int))).toArray 3) ∧ Hid (∀ q i, q < j → (kpL lk N)[q]? = some i → u i = false)) (fun t _ => L - (intOf t).toNat)
 case atStart => exact ⟨0, by omega, rfl, P1, B1, K1, fun q i hq => absurd hq (by omega)⟩
 case round =>
  clear P1 B1 K1
  obtain ⟨j, hj, rfl, P, B, K, G⟩ := hrel
  by_cases hlt : j < L
  ·have hlt' : (j : Int) < L := by omega
   obtain ⟨i, hi⟩ : ∃ i, (kpL lk N)[j]? = some i := ⟨_, List.getElem?_eq_getElem (by rw [HL.out]; exact hlt)⟩
   have c := K.out.cell j
   simp only [List.getElem?_toArray, List.getElem?_map, hi, Option.map_some] at c
   obtain ⟨u1, u2, u3⟩ := uK_get (u := u) h4 hi
   obtain ⟨x0, x1, x2, x3, x4, xl⟩ := P.out.hd.five
   cases hu : u i
   ·have PT := hide (put_new a g N i (uK u lk N j) u3 (u1.trans hu) wr P.out.m)
    have G2 : Hid (∀ q i, q < j + 1 → (kpL lk N)[q]? = some i → u i = false) := fun q i2 hq h2 => by
     by_cases e : q = j
     ·subst e
      rw [hi] at h2
      obtain rfl := Option.some.inj h2
      exact hu
     ·exact G.out q i2 (by omega) h2
    rw [← u2] at PT
    have i6 : (i : Int) < 65536 := by omega
    clear u1 u2 u3 hu hi G
    go_wp2_with fail
    refine PT.out.mono ?_
    rintro e w2 ⟨rfl, hM, hK⟩
    have P2 := hide (P.out.turn hM hK)
    have B2 : Hid (But [g] w.heap.size w w2) := B.out.trans (hK.mono B.out.size (fun x hx _ => hx))
    have K2 : Hid (Blk w2 k _ _) := hK.blk K.out K.out.lt kg
    clear hM hK PT P B K x0 x1 x2 x3 x4 c
    go_wp2
    go_roundw
    case rel => exact ⟨j + 1, by omega, by go_num, P2, B2, K2, G2⟩
    case measure => simp [intOf]; omega
   ·have PT := hide (put_same a g N i (uK u lk N j) u3 (u1.trans hu) wr P.out.m)
    have bad : Hid (badU u lk N) := ⟨i, by rw [← kp_mem (by omega)]; exact decide_eq_true (List.mem_of_getElem? hi), hu⟩
    have i6 : (i : Int) < 65536 := by omega
    clear u1 u2 u3 hu hi G
    go_wp2_with fail
    refine PT.out.mono ?_
    rintro e w2 ⟨rfl, hM, hK⟩
    have B2 : Hid (But [g] w.heap.size w w2) := B.out.trans (hK.mono B.out.size (fun x hx _ => hx))
    clear hM hK PT P B K x0 x1 x2 x3 x4 c
    go_wp2
    go_ret2
    exact Or.inr ⟨bad.out, rfl, B2.out⟩
  ·have hlt' : ¬ (j : Int) < L := by omega
   have good : Hid (¬ badU u lk N) := fun ⟨i, h1, h2⟩ => by
    rw [← kp_mem (by omega)] at h1
    obtain ⟨q, hq⟩ := List.mem_iff_getElem?.1 (of_decide_eq_true h1)
    have : q < (kpL lk N).length := by
     apply Classical.byContradiction
     intro c
     rw [List.getElem?_eq_none (by omega)] at hq
     cases hq
    rw [HL.out] at this
    rw [G.out q i (by omega) hq] at h2
    cases h2
   have PF := P.out
   rw [uK_full (by omega) (by rw [HL.out]; omega)] at PF
   have P2 := hide PF
   clear G PF P
   go_wp2
   go_ret2
   exact Or.inl ⟨good.out, rfl, P2.out, B.out⟩

set_option maxHeartbeats 800000 in
theorem poNew_no {v : Bool} {h l b : Int} {n : Nat} (hp : IsNum h l n) (h4 : ¬ 4 ≤ szP v n b) (w : World) :
  Calls Tryz.prog 13 #[pv v h l b] w fun e w' => e = .returned (.tuple #[.pointer none, .int .i64 1]) ∧ Below w.heap.size w w' := by
 have SZ : Hid (∀ w', _) := fun w' => sizeOf_c (v := v) (b := b) hp w'
 have h4' : (szP v n b : Int) < 4 := by omega
 obtain ⟨N, hN⟩ : ∃ N, szP v n b = N := ⟨_, rfl⟩
 rw [hN] at SZ h4'
 have K := pfx_start w v h l b
 clear h4 hN hp
 go_enter Tryz.func13, Tryz.ntmps13
 go_wp2_with fail
 refine (SZ.out _).mono ?_
 rintro e w1 ⟨rfl, hb⟩
 have B := (K.below hb).bel
 clear SZ hb K
 go_wp2
 go_ret2
 exact ⟨rfl, B⟩

set_option maxHeartbeats 1600000 in
theorem poNew_ok {v : Bool} {h l b : Int} {n : Nat} (hp : IsNum h l n) (h4 : 4 ≤ szP v n b) (w : World) :
  Calls Tryz.prog 13 #[pv v h l b] w fun e w' => ∃ x a g, e = .returned (.tuple #[.pointer (some ⟨x, 0, none⟩), .int .i64 0]) ∧ PoAt w' v h l b x a g (szP v n b) (kpF (lkP v b) (szP v n b)) ∧ Below w.heap.size w w' ∧ w.heap.size ≤ x ∧ w.heap.size ≤ g := by
 have SZ : Hid (∀ w', _) := fun w' => sizeOf_c (v := v) (b := b) hp w'
 have WU : Hid (∀ a g w', MapB w' a g (szP v n b) (fun _ => false) → _) := fun a g w' hM => withUsed_c (v := v) (b := b) hp h4 w' hM
 have h4' : ¬ (szP v n b : Int) < 4 := by omega
 have le := szP_le (v := v) (n := n) (b := b)
 have ng : Hid (¬ badU (fun _ => false) (lkP v b) (szP v n b)) := fun ⟨i, _, h2⟩ => by cases h2
 obtain ⟨N, hN⟩ : ∃ N, szP v n b = N := ⟨_, rfl⟩
 rw [hN] at SZ WU h4' le ng ⊢
 generalize lkP v b = lk at *
 have K := pfx_start w v h l b
 clear h4 hN hp
 go_enter Tryz.func13, Tryz.ntmps13
 go_wp2_with fail
 refine (SZ.out _).mono ?_
 rintro e w1 ⟨rfl, hb⟩
 have K1 := K.below hb
 have NB := hide (new_b N le w1)
 have F := K1.1
 simp only [Facts, CellsAt] at F
 clear SZ hb K
 go_wp2_with fail
 refine NB.out.mono ?_
 rintro e w2 ⟨rfl, hM, hb, hs⟩
 have K2 := K1.below hb
 have F2 := K2.1
 simp only [Facts, CellsAt] at F2
 have WW := hide (WU.out _ _ w2 hM)
 have KH := hide K2
 have LH := hide K1.bel.size
 have SH := hide hs
 clear hM hb hs NB K1 K2 WU F
 go_wp2_with fail
 refine WW.out.mono ?_
 rintro e w3 (⟨hg, rfl, hP, hK⟩ | ⟨hg, rfl, hK⟩)
 ·have PH := hide hP
  have B3 : Hid (Below w.heap.size w w3) := hK.to KH.out.bel LH.out KH.out.bel.size
  clear hg hP hK WW
  go_wp2
  go_ret2
  refine ⟨_, w1.heap.size + 1, _, rfl, ?_, B3.out, ?_, LH.out⟩
  ·have := PH.out
   simpa using this
  ·have := LH.out
   have := SH.out
   omega
 ·exact absurd hg ng.out


theorem PoAt.keep {B : Nat} {W W' : World} {v : Bool} {h l b : Int} {x a g N : Nat} {f : Nat → Bool} (P : PoAt W v h l b x a g N f) (k : Below B W W') (hx : x < B) (ha : a < B) (hg : g < B) : PoAt W' v h l b x a g N f :=
 have q : But [] B W W' := But.of k (Nat.le_refl _)
 ⟨q.blk P.hd hx (by simp), P.m.but q ha hg (by simp) (by simp)⟩

set_option maxHeartbeats 1600000 in
theorem poNext_full {v : Bool} {h l b i : Int} {x a g N : Nat} {f : Nat → Bool} (h0 : 0 < N) (i0 : -9223372036854775808 ≤ i) (i1 : i ≤ 9223372036854775807) (hf : nextF f N (i.toNat % N) = none) (w : World) (hT : TB w) (P0 : PoAt w v h l b x a g N f) :
  Calls Tryz.prog 45 #[.pointer (some ⟨x, 0, none⟩), .int .i64 i] w fun e w' => e = .returned (.tuple #[av false 0 0, .int .i64 9]) ∧ Below w.heap.size w w' := by
 have bl : Below w.heap.size w (w.alloc (.cells #[.bool false, .int .u64 0, .int .u64 0] 26)) := by repeat (first | with_reducible exact Below.refl _ _ | with_reducible refine Below.drew ?_ | with_reducible refine Below.alloc ?_ (by first | omega | (simp <;> omega)) _ | with_reducible refine Below.setCell ?_ (by first | omega | (simp <;> omega)) _)
 have NX := next_ok a g N f i i0 i1 h0 _ (P0.m.below bl) (hT.below bl)
 rw [show nxP f N (i.toNat % N) = 0 from by unfold nxP; rw [hf]; rfl, show nxB f N (i.toNat % N) = false from by unfold nxB; rw [hf]; rfl] at NX
 have NH := hide NX
 obtain ⟨x0, x1, x2, x3, x4, xl⟩ := P0.hd.five
 have RB := Blk.new w #[.bool false, .int .u64 0, .int .u64 0] 26
 have RH := hide RB
 have BH := hide bl
 clear bl NX P0 hT RB hf
 go_enter Tryz.func45, Tryz.ntmps45
 go_wp2_with fail
 refine NH.out.mono ?_
 rintro e w1 ⟨rfl, hb⟩
 have R1 := RH.out.below hb
 obtain ⟨r0, r1, r2, r3, r4, r5, r6⟩ := R1.three
 have B := BH.out.trans (hb.mono BH.out.size)
 have hs := B.size
 clear NH RH BH hb R1
 go_wp2
 refine bodyPost_ret (v := .tuple #[av false 0 0, .int .i64 9]) (by simp [results, Tryz.results45, go_sem, World.cell?_setCell_same', World.cell?_setCell_other, *]) rfl ⟨rfl, by repeat (first | with_reducible exact Below.refl _ _ | with_reducible refine Below.drew ?_ | with_reducible refine Below.alloc ?_ (by first | omega | (simp <;> omega)) _ | with_reducible refine Below.setCell ?_ (by first | omega | (simp <;> omega)) _ | with_reducible refine Below.trans ?_ (Below.mono B (by first | omega | (simp <;> omega))))⟩

set_option maxHeartbeats 1600000 in
theorem poNext_ok {v : Bool} {h l b i rh rl : Int} {x a g n p : Nat} {f : Nat → Bool} (hp : IsNum h l n) (h0 : 0 < szP v n b) (i0 : -9223372036854775808 ≤ i) (i1 : i ≤ 9223372036854775807) (hf : nextF f (szP v n b) (i.toNat % szP v n b) = some p) (hr : IsNum rh rl (n + p)) (w : World) (hT : TB w) (P0 : PoAt w v h l b x a g (szP v n b) f) :
  Calls Tryz.prog 45 #[.pointer (some ⟨x, 0, none⟩), .int .i64 i] w fun e w' => e = .returned (.tuple #[av v rh rl, .int .i64 0]) ∧ PoAt w' v h l b x a g (szP v n b) (upd f p true) ∧ But [g] w.heap.size w w' := by
 have ok := szP_ok h0
 obtain ⟨hpn, hfp⟩ := nextF_is (Nat.mod_lt _ h0) hf
 have le := szP_le (v := v) (n := n) (b := b)
 have HO := hide (fun w' hx => host_c (a := a) (x := x) hp ok hpn hr w' hx)
 obtain ⟨N, hN⟩ : ∃ N, szP v n b = N := ⟨_, rfl⟩
 rw [hN] at h0 hf hpn le P0 ⊢
 have bl : Below w.heap.size w (w.alloc (.cells #[.bool false, .int .u64 0, .int .u64 0] 26)) := by repeat (first | with_reducible exact Below.refl _ _ | with_reducible refine Below.drew ?_ | with_reducible refine Below.alloc ?_ (by first | omega | (simp <;> omega)) _ | with_reducible refine Below.setCell ?_ (by first | omega | (simp <;> omega)) _)
 have NX := next_ok a g N f i i0 i1 h0 _ (P0.m.below bl) (hT.below bl)
 rw [show nxP f N (i.toNat % N) = p from by unfold nxP; rw [hf]; rfl, show nxB f N (i.toNat % N) = true from by unfold nxB; rw [hf]; rfl] at NX
 have NH := hide NX
 obtain ⟨x0, x1, x2, x3, x4, xl⟩ := P0.hd.five
 have l4 := P0.m.lt
 have P1 := hide (P0.below bl)
 have RB := Blk.new w #[.bool false, .int .u64 0, .int .u64 0] 26
 have RH := hide RB
 have BH := hide bl
 have hp6 : (p : Int) < 65536 := by omega
 have HF := hide hfp
 clear bl NX P0 hT RB hf hp ok hr hN hfp
 go_enter Tryz.func45, Tryz.ntmps45
 go_wp2_with fail
 refine NH.out.mono ?_
 rintro e w1 ⟨rfl, hb⟩
 have P2 := P1.out.below hb
 have R1 := hide (RH.out.below hb)
 have B1 := hide (BH.out.trans (hb.mono BH.out.size))
 have PT := hide (put_new a g N p f hpn HF.out w1 P2.m)
 obtain ⟨y0, y1, y2, y3, y4, yl⟩ := P2.hd.five
 have PH2 := hide P2
 clear NH RH BH hb P1 P2 HF x0 x1 x2 x3 x4
 go_wp2_with fail
 refine PT.out.mono ?_
 rintro e w2 ⟨rfl, hM, hK⟩
 have P3 := PH2.out.turn hM hK
 have R2 := hide (hK.blk R1.out R1.out.lt (by simp; omega))
 have B2 := hide ((But.of (L := [g]) B1.out (Nat.le_refl _)).trans (hK.mono B1.out.size (fun x hx _ => hx)))
 have HOW := hide (HO.out w2 P3.hd)
 have PH3 := hide P3
 clear PT hM hK PH2 R1 B1 P3 HO y0 y1 y2 y3 y4
 go_wp2_with fail
 refine HOW.out.mono ?_
 rintro e w3 ⟨rfl, hb⟩
 have R3 := R2.out.below hb
 obtain ⟨r0, r1, r2, r3, r4, r5, r6⟩ := R3.three
 have P4 := hide (PH3.out.below hb)
 have B3 := hide (B2.out.trans (But.of (L := [g]) hb B2.out.size))
 have hs : w.heap.size ≤ w3.heap.size := B3.out.size
 clear HOW hb R2 B2 PH3 R3
 go_wp2
 have E : ∀ W', Below w.heap.size w3 W' → PoAt W' v h l b x a g N (upd f p true) ∧ But [g] w.heap.size w W' := fun W' k => ⟨P4.out.keep k xl l4.1 l4.2.1, B3.out.trans (But.of k (Nat.le_refl _))⟩
 refine bodyPost_ret (v := .tuple #[av v rh rl, .int .i64 0]) (by simp [results, Tryz.results45, go_sem, World.cell?_setCell_same', World.cell?_setCell_other, *]) rfl ⟨rfl, E _ (by repeat (first | with_reducible exact Below.refl _ _ | with_reducible refine Below.drew ?_ | with_reducible refine Below.alloc ?_ (by first | omega | (simp <;> omega)) _ | with_reducible refine Below.setCell ?_ (by first | omega | (simp <;> omega)) _))⟩

set_option maxHeartbeats 1600000 in
theorem poLeft_c {v : Bool} {h l b : Int} {x a g N : Nat} {f : Nat → Bool} {C : Int} (hC : (N : Int) - (cnt f N : Nat) = C) (w : World) (P0 : PoAt w v h l b x a g N f) :
  Calls Tryz.prog 16 #[.pointer (some ⟨x, 0, none⟩)] w fun e w' => e = .returned (.int .i64 C) ∧ Below w.heap.size w w' := by
 have PH := hide P0
 obtain ⟨x0, x1, x2, x3, x4, xl⟩ := P0.hd.five
 have K0 : Kn w [(x, [.bool v, .int .u64 h, .int .u64 l, .int .i64 b, .pointer (some ⟨a, 0, none⟩)], 82)] w := (Kn.nil w).cons P0.hd
 have l4 := P0.m.lt
 have hcl : cnt f N ≤ N := cnt_le _ _
 obtain ⟨c, hc⟩ : ∃ c, cnt f N = c := ⟨_, rfl⟩
 have CC := hide (fun w' H => count_ok a g N f w' H)
 rw [hc] at CC hcl hC
 have hsub : IntKind.i64.wrap ((N : Int) - c) = C := by rw [← hC]; simp [IntKind.wrap, IntKind.bits, IntKind.signed]; omega
 have hCC : IntKind.i64.wrap C = C := by rw [← hC]; simp [IntKind.wrap, IntKind.bits, IntKind.signed]; omega
 clear P0 hc
 go_enter Tryz.func16, Tryz.ntmps16
 go_wp2_with fail
 refine wp_region_held_drew (S := (Kn w [(x, [.bool v, .int .u64 h, .int .u64 l, .int .i64 b, .pointer (some ⟨a, 0, none⟩)], 82)])) (by kernel_rfl) ?hS100 (fun hHeld => ?rest100)
 case hS100 => with_reducible exact K0.drew
 refine w8 0 ?_ (ga7 rfl) (by kernel_rfl) (fun _ _ _ h => h) ⟨by rfl, ?y101⟩ hHeld ?_
 case y101 => (intro wq hSw; (try simp only [Two, Kn, Facts, CellsAt] at hSw); go_simp; try with_reducible rfl)
 try simp only [Act.put, a7, b7, c7]
 refine w8 1 ?_ (ga7 rfl) (by kernel_rfl) (fun _ _ _ h => h) ⟨by rfl, ?y102⟩ hHeld ?_
 case y102 => (intro wq hSw; (try simp only [Two, Kn, Facts, CellsAt] at hSw); go_simp; try with_reducible rfl)
 try simp only [Act.put, a7, b7, c7]
 refine w8 2 ?_ (ga7 rfl) (by kernel_rfl) (fun _ _ _ h => h) ⟨by rfl, ?y103⟩ hHeld ?_
 case y103 => (intro wq hSw; (try simp only [Two, Kn, Facts, CellsAt] at hSw); go_simp; try with_reducible rfl)
 try simp only [Act.put, a7, b7, c7]
 refine w8 3 ?_ (ga7 rfl) (by kernel_rfl) (fun _ _ _ h => h) ⟨by rfl, ?y104⟩ hHeld ?_
 case y104 => (intro wq hSw; (try simp only [Two, Kn, Facts, CellsAt] at hSw); go_simp; try with_reducible rfl)
 try simp only [Act.put, a7, b7, c7]
 refine w8 5 ?_ (ga7 rfl) (by kernel_rfl) (fun _ _ _ h => h) ⟨by rfl, ?y105⟩ hHeld ?_
 case y105 => (intro wq hSw; (try simp only [Two, Kn, Facts, CellsAt] at hSw); go_simp; try with_reducible rfl)
 try simp only [Act.put, a7, b7, c7]
 refine w8 6 ?_ (ga7 rfl) (by kernel_rfl) (fun _ _ _ h => h) ⟨by rfl, ?y106⟩ hHeld ?_
 case y106 => (intro wq hSw; (try simp only [Two, Kn, Facts, CellsAt] at hSw); go_simp; try with_reducible rfl)
 try simp only [Act.put, a7, b7, c7]
 refine w8 7 ?_ (ga7 rfl) (by kernel_rfl) (fun _ _ _ h => h) ⟨by rfl, ?y107⟩ hHeld ?_
 case y107 => (intro wq hSw; (try simp only [Two, Kn, Facts, CellsAt] at hSw); go_simp; try with_reducible rfl)
 try simp only [Act.put, a7, b7, c7]
 refine w8 8 ?_ (ga7 rfl) (by kernel_rfl) (fun _ _ _ h => h) ⟨by rfl, ?y108⟩ hHeld ?_
 case y108 => (intro wq hSw; (try simp only [Two, Kn, Facts, CellsAt] at hSw); go_simp; try with_reducible rfl)
 try simp only [Act.put, a7, b7, c7]
 refine wpAnyH_ready (rs := [4]) (by kernel_rfl) (by simp) ?rdy109
 refine AllReadyH.cons (ga7 rfl) (fun K hK => ?stp109) AllReadyH.nil
 go_simp
 go_wp2_with fail
 (refine (size_c a N _ (PH.out.below hHeld.bel).head).mono ?_; rintro e w4 ⟨rfl, rfl⟩)
 go_wp2_with fail
 refine hK.out _ _ ?hSn109 (fun hHeld2 => ?rest109)
 case hSn109 => (first | with_reducible exact K0.drew | with_reducible exact hHeld)
 clear hK K hHeld
 have hHeld := hHeld2
 clear hHeld2
 try simp only [Act.put, a7, b7, c7]
 refine wpAnyH_ready (rs := [9]) (by kernel_rfl) (by simp) ?rdy110
 refine AllReadyH.cons (ga7 rfl) (fun K hK => ?stp110) AllReadyH.nil
 go_simp
 go_wp2_with fail
 (refine (CC.out _ (PH.out.below hHeld.bel).m).mono ?_; rintro e w5 ⟨rfl, hb5⟩)
 go_wp2_with fail
 refine hK.out _ _ ?hSn110 (fun hHeld2 => ?rest110)
 case hSn110 => with_reducible exact hHeld.below hb5
 clear hK K hHeld
 have hHeld := hHeld2
 clear hHeld2
 try simp only [Act.put, a7, b7, c7]
 refine w8 10 ?_ (ga7 rfl) (by kernel_rfl) (fun _ _ _ h => h) ⟨by rfl, ?y111⟩ hHeld ?_
 case y111 => (intro wq hSw; (try simp only [Two, Kn, Facts, CellsAt] at hSw); go_simp; try with_reducible rfl)
 try simp only [Act.put, a7, b7, c7]
 refine w8 11 ?_ (ga7 rfl) (by kernel_rfl) (fun _ _ _ h => h) ⟨by rfl, ?y112⟩ hHeld ?_
 case y112 => (intro wq hSw; (try simp only [Two, Kn, Facts, CellsAt] at hSw); go_simp; try with_reducible rfl)
 try simp only [Act.put, a7, b7, c7]
 refine wpAnyH_done (by kernel_rfl) ?fin100 _
 have B := hHeld.bel
 clear hHeld K0 CC hb5
 go_wp2
 go_ret
 exact ⟨by first | rfl | simp [hsub, hCC], B⟩

set_option maxHeartbeats 800000 in
theorem poPrefix_c {v : Bool} {h l b : Int} {x a g N : Nat} {f : Nat → Bool} (w : World) (P : PoAt w v h l b x a g N f) :
  Calls Tryz.prog 18 #[.pointer (some ⟨x, 0, none⟩)] w fun e w' => e = .returned (pv v h l b) ∧ Below w.heap.size w w' := by
 obtain ⟨x0, x1, x2, x3, x4, xl⟩ := P.hd.five
 clear P
 go_enter Tryz.func18, Tryz.ntmps18
 go_wp2
 first
  | (go_ret; exact ⟨rfl, by repeat (first | with_reducible exact Below.refl _ _ | with_reducible refine Below.drew ?_ | with_reducible refine Below.alloc ?_ (by first | omega | (simp <;> omega)) _ | with_reducible refine Below.setCell ?_ (by first | omega | (simp <;> omega)) _)⟩)
  | refine bodyPost_ret (v := pv v h l b) (by simp [results, Tryz.results18, go_sem, World.cell?_setCell_same', World.cell?_setCell_other, *]) rfl ⟨rfl, by repeat (first | with_reducible exact Below.refl _ _ | with_reducible refine Below.drew ?_ | with_reducible refine Below.alloc ?_ (by first | omega | (simp <;> omega)) _ | with_reducible refine Below.setCell ?_ (by first | omega | (simp <;> omega)) _)⟩

set_option maxHeartbeats 1600000 in
theorem poCopy_c {v : Bool} {h l b : Int} {x a g N : Nat} {f : Nat → Bool} (w : World) (P0 : PoAt w v h l b x a g N f) :
  Calls Tryz.prog 57 #[.pointer (some ⟨x, 0, none⟩)] w fun e w' => ∃ x' a' g', e = .returned (.pointer (some ⟨x', 0, none⟩)) ∧ PoAt w' v h l b x' a' g' N f ∧ Below w.heap.size w w' ∧ w.heap.size ≤ x' ∧ w.heap.size ≤ g' := by
 have PH := hide P0
 obtain ⟨x0, x1, x2, x3, x4, xl⟩ := P0.hd.five
 have K0 : Kn w [(x, [.bool v, .int .u64 h, .int .u64 l, .int .i64 b, .pointer (some ⟨a, 0, none⟩)], 82)] w := (Kn.nil w).cons P0.hd
 have CC := hide (fun w' H => copy_ok a g N f w' H)
 clear P0
 go_enter Tryz.func57, Tryz.ntmps57
 go_wp2_with fail
 refine wp_region_held_drew (S := (Kn w [(x, [.bool v, .int .u64 h, .int .u64 l, .int .i64 b, .pointer (some ⟨a, 0, none⟩)], 82)])) (by kernel_rfl) ?hS200 (fun hHeld => ?rest200)
 case hS200 => with_reducible exact K0.drew
 refine w8 0 ?_ (ga7 rfl) (by kernel_rfl) (fun _ _ _ h => h) ⟨by rfl, ?y201⟩ hHeld ?_
 case y201 => (intro wq hSw; (try simp only [Two, Kn, Facts, CellsAt] at hSw); go_simp; try with_reducible rfl)
 try simp only [Act.put, a7, b7, c7]
 refine w8 1 ?_ (ga7 rfl) (by kernel_rfl) (fun _ _ _ h => h) ⟨by rfl, ?y202⟩ hHeld ?_
 case y202 => (intro wq hSw; (try simp only [Two, Kn, Facts, CellsAt] at hSw); go_simp; try with_reducible rfl)
 try simp only [Act.put, a7, b7, c7]
 refine w8 2 ?_ (ga7 rfl) (by kernel_rfl) (fun _ _ _ h => h) ⟨by rfl, ?y203⟩ hHeld ?_
 case y203 => (intro wq hSw; (try simp only [Two, Kn, Facts, CellsAt] at hSw); go_simp; try with_reducible rfl)
 try simp only [Act.put, a7, b7, c7]
 refine w8 3 ?_ (ga7 rfl) (by kernel_rfl) (fun _ _ _ h => h) ⟨by rfl, ?y204⟩ hHeld ?_
 case y204 => (intro wq hSw; (try simp only [Two, Kn, Facts, CellsAt] at hSw); go_simp; try with_reducible rfl)
 try simp only [Act.put, a7, b7, c7]
 refine w8 4 ?_ (ga7 rfl) (by kernel_rfl) (fun _ _ _ h => h) ⟨by rfl, ?y205⟩ hHeld ?_
 case y205 => (intro wq hSw; (try simp only [Two, Kn, Facts, CellsAt] at hSw); go_simp; try with_reducible rfl)
 try simp only [Act.put, a7, b7, c7]
 refine w8 5 ?_ (ga7 rfl) (by kernel_rfl) (fun _ _ _ h => h) ⟨by rfl, ?y206⟩ hHeld ?_
 case y206 => (intro wq hSw; (try simp only [Two, Kn, Facts, CellsAt] at hSw); go_simp; try with_reducible rfl)
 try simp only [Act.put, a7, b7, c7]
 refine w8 6 ?_ (ga7 rfl) (by kernel_rfl) (fun _ _ _ h => h) ⟨by rfl, ?y207⟩ hHeld ?_
 case y207 => (intro wq hSw; (try simp only [Two, Kn, Facts, CellsAt] at hSw); go_simp; try with_reducible rfl)
 try simp only [Act.put, a7, b7, c7]
 refine w8 7 ?_ (ga7 rfl) (by kernel_rfl) (fun _ _ _ h => h) ⟨by rfl, ?y208⟩ hHeld ?_
 case y208 => (intro wq hSw; (try simp only [Two, Kn, Facts, CellsAt] at hSw); go_simp; try with_reducible rfl)
 try simp only [Act.put, a7, b7, c7]
 refine wpAnyH_ready (rs := [8]) (by kernel_rfl) (by simp) ?rdy209
 refine AllReadyH.cons (ga7 rfl) (fun K hK => ?stp209) AllReadyH.nil
 go_simp
 go_wp2_with fail
 (have LL := hide hHeld.bel.size; refine (CC.out _ (PH.out.below hHeld.bel).m).mono ?_; rintro e w5 ⟨rfl, hM, hb5, hs5⟩; have MH := hide hM; have B5 := hide (hHeld.below hb5).bel; have s5 := hide hb5.size)
 go_wp2_with fail
 refine hK.out _ _ ?hSn209 (fun hHeld2 => ?rest209)
 case hSn209 => with_reducible exact hHeld.below hb5
 clear hK K hHeld
 have hHeld := hHeld2
 clear hHeld2
 try simp only [Act.put, a7, b7, c7]
 refine w8 9 ?_ (ga7 rfl) (by kernel_rfl) (fun _ _ _ h => h) ⟨by rfl, ?y210⟩ hHeld ?_
 case y210 => (intro wq hSw; (try simp only [Two, Kn, Facts, CellsAt] at hSw); go_simp; try with_reducible rfl)
 try simp only [Act.put, a7, b7, c7]
 refine wpAnyH_ready (rs := [10]) (by kernel_rfl) (by simp) ?rdy211
 refine AllReadyH.cons (ga7 rfl) (fun K hK => ?stp211) AllReadyH.nil
 go_simp
 go_wp2_with fail
 skip
 go_wp2_with fail
 refine hK.out _ _ ?hSn211 (fun hHeld2 => ?rest211)
 case hSn211 => (first | with_reducible exact K0.drew | with_reducible exact hHeld.alloc _ | with_reducible exact hHeld.below hb5)
 clear hK K hHeld
 have hHeld := hHeld2
 clear hHeld2
 try simp only [Act.put, a7, b7, c7]
 refine w8 11 ?_ (ga7 rfl) (by kernel_rfl) (fun _ _ _ h => h) ⟨by rfl, ?y212⟩ hHeld ?_
 case y212 => (intro wq hSw; (try simp only [Two, Kn, Facts, CellsAt] at hSw); go_simp; try with_reducible rfl)
 try simp only [Act.put, a7, b7, c7]
 refine wpAnyH_done (by kernel_rfl) ?fin200 _
 have SH := hide hs5
 clear hHeld K0 CC hb5 hM hs5 x0 x1 x2 x3 x4
 have hs5 := SH.out
 simp at hs5
 go_wp2
 go_ret
 have e1 := LL.out
 have e2 := s5.out
 have BN := Blk.new w5 #[.bool v, .int .u64 h, .int .u64 l, .int .i64 b, .pointer (some ⟨w.heap.size + 1, 0, none⟩)] 82
 rw [hs5] at BN
 refine ⟨w.heap.size + 2, w.heap.size + 1, w.heap.size, rfl, ⟨BN, ?_⟩, ?_, ?_, ?_⟩
 ·have M5 : MapB w5 (w.heap.size + 1) w.heap.size N f := by simpa using MH.out
  refine M5.below ?_
  exact by repeat (first | with_reducible exact Below.refl _ _ | with_reducible refine Below.drew ?_ | with_reducible refine Below.alloc ?_ (by first | omega | (simp <;> omega)) _ | with_reducible refine Below.setCell ?_ (by first | omega | (simp <;> omega)) _)
 ·have B := B5.out
  exact by repeat (first | with_reducible exact Below.refl _ _ | with_reducible refine Below.drew ?_ | with_reducible refine Below.alloc ?_ (by first | omega | (simp <;> omega)) _ | with_reducible refine Below.setCell ?_ (by first | omega | (simp <;> omega)) _ | with_reducible refine Below.trans ?_ (Below.mono B (by first | omega | (simp <;> omega))))
 ·first | omega | (simp at e1 e2 ⊢; omega)
 ·first | omega | (simp at e1 e2 ⊢; omega)


/-- How many addresses the reference's pool has. -/
def cnP (v : Bool) (n : Nat) (b : Int) : Nat := if 4 ≤ szP v n b then szP v n b else 0

set_option maxRecDepth 100000 in
set_option maxHeartbeats 1600000 in
theorem rcount06_no {v : Bool} {h l b : Int} {n : Nat} (hp : IsNum h l n) (ok : okP v n b = false) (w : World) :
  Calls Tryz.prog 12 #[pv v h l b] w fun e w' => e = .returned (.int .i64 0) ∧ Below w.heap.size w w' := by
 have K := pfx_start w v h l b
 have RT : Hid (∀ w', Calls Tryz.prog 10 #[pv v h l b] w' fun e w1 => e = .returned (.bool false) ∧ Below w'.heap.size w' w1) := fun w' => ok ▸ rpright_c hp w'
 clear hp ok
 go_enter Tryz.func12, Tryz.ntmps12
 go_wp2_with fail
 refine (RT.out _).mono ?_
 rintro e w1 ⟨rfl, hb⟩
 have B := (K.below hb).bel
 clear RT hb K
 go_wp2
 go_ret
 exact ⟨rfl, B⟩

theorem pow_i (j : Nat) : ((2 ^ j : Nat) : Int) * 2 = ((2 ^ (j + 1) : Nat) : Int) := by
 rw [Nat.pow_succ]
 omega

set_option maxRecDepth 100000 in
set_option maxHeartbeats 1600000 in
theorem rcount06_ok {v : Bool} {h l b W : Int} {n K : Nat} (hW : widthA v = W) (hK : W - b = (K : Int)) (hK2 : K ≤ 128) (hb0 : 0 ≤ b) (hp : IsNum h l n) (ok : okP v n b = true) {C : Int} (hC : C = (if 16 < K then 65536 else if K < 2 then 0 else ((2 ^ K : Nat) : Int))) (w : World) :
  Calls Tryz.prog 12 #[pv v h l b] w fun e w' => e = .returned (.int .i64 C) ∧ Below w.heap.size w w' := by
 have K0 := pfx_start w v h l b
 have RT : Hid (∀ w', Calls Tryz.prog 10 #[pv v h l b] w' fun e w1 => e = .returned (.bool true) ∧ Below w'.heap.size w' w1) := fun w' => ok ▸ rpright_c hp w'
 have WD : Hid (∀ w', Calls Tryz.prog 43 #[av v h l] w' fun e w1 => e = .returned (.int .i64 W) ∧ Below w'.heap.size w' w1) := fun w' => rwidth_c v W hW h l w'
 have hw1 : IntKind.i64.wrap (W - b) = K := by rw [hK]; simp [IntKind.wrap, IntKind.bits, IntKind.signed]; omega
 have hw0 : IntKind.i64.wrap (K : Int) = K := by simp [IntKind.wrap, IntKind.bits, IntKind.signed]; omega
 have HC := hide hC
 clear hp ok hW hC hb0
 go_enter Tryz.func12, Tryz.ntmps12
 go_wp2_with fail
 refine (RT.out _).mono ?_
 rintro e w1 ⟨rfl, hb⟩
 have K1 := K0.below hb
 clear RT hb K0
 go_wp2_with fail
 refine wp_region_held_drew (S := (Kn w [(w.heap.size, [.bool v, .int .u64 h, .int .u64 l, .int .i64 b], 28)])) (by kernel_rfl) ?hS100 (fun hHeld => ?rest100)
 case hS100 => with_reducible exact K1.drew
 refine w8 0 ?_ (ga7 rfl) (by kernel_rfl) (fun _ _ _ h => h) ⟨by rfl, ?y101⟩ hHeld ?_
 case y101 => (intro wq hSw; (try simp only [Two, Kn, Facts, CellsAt] at hSw); go_simp; try with_reducible rfl)
 try simp only [Act.put, a7, b7, c7]
 refine w8 1 ?_ (ga7 rfl) (by kernel_rfl) (fun _ _ _ h => h) ⟨by rfl, ?y102⟩ hHeld ?_
 case y102 => (intro wq hSw; (try simp only [Two, Kn, Facts, CellsAt] at hSw); go_simp; try with_reducible rfl)
 try simp only [Act.put, a7, b7, c7]
 refine w8 3 ?_ (ga7 rfl) (by kernel_rfl) (fun _ _ _ h => h) ⟨by rfl, ?y103⟩ hHeld ?_
 case y103 => (intro wq hSw; (try simp only [Two, Kn, Facts, CellsAt] at hSw); go_simp; try with_reducible rfl)
 try simp only [Act.put, a7, b7, c7]
 refine w8 4 ?_ (ga7 rfl) (by kernel_rfl) (fun _ _ _ h => h) ⟨by rfl, ?y104⟩ hHeld ?_
 case y104 => (intro wq hSw; (try simp only [Two, Kn, Facts, CellsAt] at hSw); go_simp; try with_reducible rfl)
 try simp only [Act.put, a7, b7, c7]
 refine wpAnyH_ready (rs := [2]) (by kernel_rfl) (by simp) ?rdy105
 refine AllReadyH.cons (ga7 rfl) (fun K hK => ?stp105) AllReadyH.nil
 go_simp
 go_wp2_with fail
 (refine (WD.out _).mono ?_; rintro e w4 ⟨rfl, hb4⟩)
 go_wp2_with fail
 refine hK.out _ _ ?hSn105 (fun hHeld2 => ?rest105)
 case hSn105 => with_reducible exact hHeld.below hb4
 clear hK K hHeld
 have hHeld := hHeld2
 clear hHeld2
 try simp only [Act.put, a7, b7, c7]
 refine w8 5 ((.int .i64 K)) (ga7 rfl) (by kernel_rfl) (fun _ _ _ h => h) ⟨by rfl, ?y106⟩ hHeld ?_
 case y106 => (intro wq hSw; (try simp only [Two, Kn, Facts, CellsAt] at hSw); go_simp; (all_goals (first | exact hw0 | rw [hw1])))
 try simp only [Act.put, a7, b7, c7]
 refine w8 6 ?_ (ga7 rfl) (by kernel_rfl) (fun _ _ _ h => h) ⟨by rfl, ?y107⟩ hHeld ?_
 case y107 => (intro wq hSw; (try simp only [Two, Kn, Facts, CellsAt] at hSw); go_simp; try with_reducible rfl)
 try simp only [Act.put, a7, b7, c7]
 refine wpAnyH_done (by kernel_rfl) ?fin100 _
 have B := hHeld.bel
 clear hHeld hb4 K1 WD hK hw1
 by_cases h16 : 16 < K
 ·have h16' : (K : Int) > 16 := by omega
  have e : C = 65536 := by rw [HC.out, if_pos h16]
  subst e
  clear HC h16
  go_wp2
  go_ret
  exact ⟨rfl, B⟩
 ·have h16' : ¬ (K : Int) > 16 := by omega
  have BH := hide B
  clear B
  go_wp2_with fail
  go_loopw [4, 5] (fun nv iv wr => ∃ (j : Nat) (p : Int), j ≤ K ∧ iv = .int .i64 j ∧ nv = .int .i64 p ∧ Hid (p = ((2 ^ j : Nat) : Int)) ∧ 1 ≤ p ∧ p ≤ 65536 ∧ wr = w4) (fun _ i _ => K - (intOf i).toNat)
  case atStart => exact ⟨0, 1, by omega, rfl, rfl, rfl, by omega, by omega, rfl⟩
  case round =>
   obtain ⟨j, p, hj, rfl, rfl, hpj, p0, p1, rfl⟩ := hrel
   by_cases hlt : j < K
   ·have hlt' : (j : Int) < K := by omega
    have hp2 : Hid (p * 2 = ((2 ^ (j + 1) : Nat) : Int)) := by show _ = _; rw [hpj.out]; exact pow_i j
    have q1 : p * 2 ≤ 65536 := by
     rw [hp2.out]
     have := Nat.pow_le_pow_right (n := 2) (by decide) (show j + 1 ≤ 16 by omega)
     rw [show (2 : Nat) ^ 16 = 65536 by decide] at this
     generalize 2 ^ (j + 1) = z at *
     omega
    clear hpj HC
    go_wp2
    go_roundw
    case rel => exact ⟨j + 1, p * 2, by omega, by go_num, by go_num, hp2, by omega, q1, by first | rfl | trivial⟩
    case measure => simp [intOf]; omega
   ·obtain rfl : j = K := by omega
    have hlt' : ¬ (j : Int) < j := by omega
    have hc := HC.out
    rw [if_neg h16, ← hpj.out] at hc
    by_cases h2 : j < 2
    ·have p4 : p < 4 := by
      rw [hpj.out]
      rcases (show j = 0 ∨ j = 1 by omega) with rfl | rfl <;> decide
     rw [if_pos h2] at hc
     subst hc
     clear HC hpj h2
     go_wp2
     go_ret
     exact ⟨rfl, BH.out⟩
    ·have p4 : ¬ p < 4 := by
      rw [hpj.out]
      have := Nat.pow_le_pow_right (n := 2) (by decide) (show 2 ≤ j by omega)
      rw [show (2 : Nat) ^ 2 = 4 by decide] at this
      generalize 2 ^ j = z at *
      omega
     rw [if_neg h2] at hc
     subst hc
     clear HC hpj h2
     go_wp2
     go_ret
     exact ⟨rfl, BH.out⟩

theorem rcount06_c {v : Bool} {h l b : Int} {n : Nat} (hp : IsNum h l n) (w : World) :
  Calls Tryz.prog 12 #[pv v h l b] w fun e w' => e = .returned (.int .i64 (cnP v n b : Nat)) ∧ Below w.heap.size w w' := by
 obtain ⟨W, hW⟩ : ∃ W, widthA v = W := ⟨_, rfl⟩
 cases ok : okP v n b
 ·have e : cnP v n b = 0 := by unfold cnP szP; rw [ok]; simp
  rw [e]
  exact rcount06_no hp ok w
 ·obtain ⟨_, b0, b1⟩ := fitsB_parts (okP_parts ok).1
  have eb : behindP v b = (W - b).toNat := by unfold behindP; rw [hW]
  have b128 := behindP_le (v := v) b0
  refine rcount06_ok (K := behindP v b) hW (by omega) b128 b0 hp ok ?_ w
  unfold cnP szP
  rw [if_pos ok]
  by_cases c : 16 < behindP v b
  ·rw [if_pos c, if_neg (by omega : ¬ behindP v b ≤ 16)]
   rfl
  ·rw [if_neg c, if_pos (by omega : behindP v b ≤ 16)]
   by_cases c2 : behindP v b < 2
   ·rw [if_pos c2]
    rcases (show behindP v b = 0 ∨ behindP v b = 1 by omega) with e | e <;> rw [e] <;> rfl
   ·rw [if_neg c2]
    have := Nat.pow_le_pow_right (n := 2) (by decide) (show 2 ≤ behindP v b by omega)
    rw [show (2 : Nat) ^ 2 = 4 by decide] at this
    rw [if_pos this]

/-- The reference's pool. -/
structure RpAt (W : World) (base : Nat) (v : Bool) (h l b : Int) (r N : Nat) (us : List Nat) : Prop where
 is : ∃ sv, Blk W r #[.bool v, .int .u64 h, .int .u64 l, .int .i64 b, .int .i64 N, sv] 59 ∧ W.ownsRow base 3 1 sv us.length (us.map fun i : Nat => Value.int .i64 (i : Int))

theorem RpAt.below {W W' : World} {base : Nat} {v : Bool} {h l b : Int} {r N : Nat} {us : List Nat} (P : RpAt W base v h l b r N us) (k : Below W.heap.size W W') : RpAt W' base v h l b r N us := by
 obtain ⟨sv, h1, h2⟩ := P.is
 exact ⟨sv, h1.below k, own_below h2 k⟩

theorem Blk.six {W : World} {b : Nat} {x y z u s q : Value} {t : TypeId} (h : Blk W b #[x, y, z, u, s, q] t) : W.cell? ⟨b, 0, none⟩ = some x ∧ W.cell? ⟨b, 1, none⟩ = some y ∧ W.cell? ⟨b, 2, none⟩ = some z ∧ W.cell? ⟨b, 3, none⟩ = some u ∧ W.cell? ⟨b, 4, none⟩ = some s ∧ W.cell? ⟨b, 5, none⟩ = some q ∧ b < W.heap.size :=
 ⟨h.cell 0, h.cell 1, h.cell 2, h.cell 3, h.cell 4, h.cell 5, h.lt⟩

set_option maxHeartbeats 800000 in
theorem rNew06_c {v : Bool} {h l b : Int} {n : Nat} (hp : IsNum h l n) (w : World) :
  Calls Tryz.prog 14 #[pv v h l b] w fun e w' =>
   (cnP v n b = 0 ∧ e = .returned (.tuple #[.pointer none, .int .i64 1]) ∧ Below w.heap.size w w') ∨
   (¬ cnP v n b = 0 ∧ ∃ r, e = .returned (.tuple #[.pointer (some ⟨r, 0, none⟩), .int .i64 0]) ∧ RpAt w' w.heap.size v h l b r (cnP v n b) [] ∧ Below w.heap.size w w' ∧ w.heap.size ≤ r) := by
 have K0 := pfx_start w v h l b
 have CN : Hid (∀ w', Calls Tryz.prog 12 #[pv v h l b] w' fun e w1 => e = .returned (.int .i64 (cnP v n b : Nat)) ∧ Below w'.heap.size w' w1) := fun w' => rcount06_c hp w'
 generalize cnP v n b = N at *
 clear hp
 go_enter Tryz.func14, Tryz.ntmps14
 go_wp2_with fail
 refine (CN.out _).mono ?_
 rintro e w1 ⟨rfl, hb⟩
 have K1 := K0.below hb
 have F := K1.1
 simp only [Facts, CellsAt] at F
 have BH := hide K1.bel
 clear CN hb K0 K1
 by_cases c : N = 0
 ·subst c
  go_wp2
  go_ret2
  first
   | exact ⟨rfl, BH.out⟩
   | exact Or.inl ⟨rfl, rfl, BH.out⟩
 ·have c' : ¬ (N : Int) = 0 := by omega
  have HC := hide c
  clear c
  go_wp2
  go_ret2
  have B := BH.out
  have hs := B.size
  refine Or.inr ⟨HC.out, w1.heap.size, rfl, ⟨⟨.slice none 0 0, Blk.new _ _ _, World.ownsRow_nil _ _ _ _⟩⟩, by repeat (first | with_reducible exact Below.refl _ _ | with_reducible refine Below.drew ?_ | with_reducible refine Below.alloc ?_ (by first | omega | (simp <;> omega)) _ | with_reducible refine Below.setCell ?_ (by first | omega | (simp <;> omega)) _ | with_reducible refine Below.trans ?_ (Below.mono B (by first | omega | (simp <;> omega)))), hs⟩

/-- What Kept answers. -/
theorem kept06_is {v : Bool} {b W : Int} {N i : Nat} (hW : widthA v = W) (h0 : 0 ≤ b) (h1 : b ≤ W) : kpF (lkP v b) N i = (decide (i = 0) || (!v && decide (W - b ≤ 16) && decide (i = N - 1))) := by
 have e : (decide (W - b ≤ 16)) = decide (behindP v b ≤ 16) := by
  unfold behindP
  rw [hW]
  by_cases c : W - b ≤ 16
  ·rw [decide_eq_true c, decide_eq_true (by omega)]
  ·rw [decide_eq_false c, decide_eq_false (by omega)]
 unfold kpF lkP
 rw [e]

set_option maxRecDepth 100000 in
set_option maxHeartbeats 3200000 in
theorem rkept06_c {v : Bool} {h l b : Int} {base r n N i : Nat} {us : List Nat} {I : Int} (hI : I = (i : Int)) (hi : i ≤ 65536) (hN : 0 < N) (hN6 : N ≤ 65536) (hp : IsNum h l n) (ok : okP v n b = true) {t : Bool} (ht : kpF (lkP v b) N i = t) (w : World) (P : RpAt w base v h l b r N us) :
  Calls Tryz.prog 51 #[.pointer (some ⟨r, 0, none⟩), .int .i64 I] w fun e w' => e = .returned (.bool t) ∧ Below w.heap.size w w' := by
 obtain ⟨W, hW⟩ : ∃ W, widthA v = W := ⟨_, rfl⟩
 obtain ⟨_, b0, b1⟩ := fitsB_parts (okP_parts ok).1
 have WD : Hid (∀ w', Calls Tryz.prog 43 #[av v h l] w' fun e w1 => e = .returned (.int .i64 W) ∧ Below w'.heap.size w' w1) := fun w' => rwidth_c v W hW h l w'
 have hw2 := width_le v
 rw [kept06_is hW b0 (by omega)] at ht
 have hw1 : IntKind.i64.wrap (W - b) = W - b := by simp [IntKind.wrap, IntKind.bits, IntKind.signed]; omega
 have hw3 : IntKind.i64.wrap ((N : Int) - 1) = (N : Int) - 1 := by simp [IntKind.wrap, IntKind.bits, IntKind.signed]; omega
 obtain ⟨sv, hb, _⟩ := P.is
 obtain ⟨r0, r1, r2, r3, r4, r5, rl⟩ := hb.six
 have K0 : Kn w [(r, [.bool v, .int .u64 h, .int .u64 l, .int .i64 b, .int .i64 N, sv], 59)] w := (Kn.nil w).cons hb
 obtain ⟨F, hF⟩ : ∃ F, W - b = F := ⟨_, rfl⟩
 rw [hF] at ht hw1
 have HF := hide hF
 subst hI
 clear hW hp ok P hb b0 b1 hw2 hF
 have cs : (i = 0 ∧ t = true) ∨ (¬ i = 0 ∧ v = true ∧ t = false) ∨ (¬ i = 0 ∧ v = false ∧ ¬ F ≤ 16 ∧ t = false) ∨ (¬ i = 0 ∧ v = false ∧ F ≤ 16 ∧ i = N - 1 ∧ t = true) ∨ (¬ i = 0 ∧ v = false ∧ F ≤ 16 ∧ ¬ i = N - 1 ∧ t = false) := by
  by_cases c1 : i = 0
  ·exact Or.inl ⟨c1, by rw [← ht]; simp [c1]⟩
  ·cases v
   ·by_cases c2 : F ≤ 16
    ·by_cases c3 : i = N - 1
     ·exact Or.inr (Or.inr (Or.inr (Or.inl ⟨c1, rfl, c2, c3, by rw [← ht]; simp [c2, c3]⟩)))
     ·exact Or.inr (Or.inr (Or.inr (Or.inr ⟨c1, rfl, c2, c3, by rw [← ht]; simp [c1, c2, c3]⟩)))
    ·exact Or.inr (Or.inr (Or.inl ⟨c1, rfl, c2, by rw [← ht]; simp [c1, c2]⟩))
   ·exact Or.inr (Or.inl ⟨c1, rfl, by rw [← ht]; simp [c1]⟩)
 have CS := hide cs
 clear ht cs
 go_enter Tryz.func51, Tryz.ntmps51
 go_wp2_with fail
 refine wp_region_held_drew (S := (Kn w [(r, [.bool v, .int .u64 h, .int .u64 l, .int .i64 b, .int .i64 N, sv], 59)])) (by kernel_rfl) ?hS200 (fun hHeld => ?rest200)
 case hS200 => with_reducible exact K0.drew
 refine w8 0 ?_ (ga7 rfl) (by kernel_rfl) (fun _ _ _ h => h) ⟨by rfl, ?y201⟩ hHeld ?_
 case y201 => (intro wq hSw; (try simp only [Two, Kn, Facts, CellsAt] at hSw); go_simp; try with_reducible rfl)
 try simp only [Act.put, a7, b7, c7]
 refine w8 1 ?_ (ga7 rfl) (by kernel_rfl) (fun _ _ _ h => h) ⟨by rfl, ?y202⟩ hHeld ?_
 case y202 => (intro wq hSw; (try simp only [Two, Kn, Facts, CellsAt] at hSw); go_simp; try with_reducible rfl)
 try simp only [Act.put, a7, b7, c7]
 refine w8 2 ?_ (ga7 rfl) (by kernel_rfl) (fun _ _ _ h => h) ⟨by rfl, ?y203⟩ hHeld ?_
 case y203 => (intro wq hSw; (try simp only [Two, Kn, Facts, CellsAt] at hSw); go_simp; try with_reducible rfl)
 try simp only [Act.put, a7, b7, c7]
 refine w8 3 ?_ (ga7 rfl) (by kernel_rfl) (fun _ _ _ h => h) ⟨by rfl, ?y204⟩ hHeld ?_
 case y204 => (intro wq hSw; (try simp only [Two, Kn, Facts, CellsAt] at hSw); go_simp; try with_reducible rfl)
 try simp only [Act.put, a7, b7, c7]
 refine w8 4 ?_ (ga7 rfl) (by kernel_rfl) (fun _ _ _ h => h) ⟨by rfl, ?y205⟩ hHeld ?_
 case y205 => (intro wq hSw; (try simp only [Two, Kn, Facts, CellsAt] at hSw); go_simp; try with_reducible rfl)
 try simp only [Act.put, a7, b7, c7]
 refine w8 6 ?_ (ga7 rfl) (by kernel_rfl) (fun _ _ _ h => h) ⟨by rfl, ?y206⟩ hHeld ?_
 case y206 => (intro wq hSw; (try simp only [Two, Kn, Facts, CellsAt] at hSw); go_simp; try with_reducible rfl)
 try simp only [Act.put, a7, b7, c7]
 refine w8 7 ?_ (ga7 rfl) (by kernel_rfl) (fun _ _ _ h => h) ⟨by rfl, ?y207⟩ hHeld ?_
 case y207 => (intro wq hSw; (try simp only [Two, Kn, Facts, CellsAt] at hSw); go_simp; try with_reducible rfl)
 try simp only [Act.put, a7, b7, c7]
 refine w8 8 ?_ (ga7 rfl) (by kernel_rfl) (fun _ _ _ h => h) ⟨by rfl, ?y208⟩ hHeld ?_
 case y208 => (intro wq hSw; (try simp only [Two, Kn, Facts, CellsAt] at hSw); go_simp; try with_reducible rfl)
 try simp only [Act.put, a7, b7, c7]
 refine w8 9 ?_ (ga7 rfl) (by kernel_rfl) (fun _ _ _ h => h) ⟨by rfl, ?y209⟩ hHeld ?_
 case y209 => (intro wq hSw; (try simp only [Two, Kn, Facts, CellsAt] at hSw); go_simp; try with_reducible rfl)
 try simp only [Act.put, a7, b7, c7]
 refine w8 10 ?_ (ga7 rfl) (by kernel_rfl) (fun _ _ _ h => h) ⟨by rfl, ?y210⟩ hHeld ?_
 case y210 => (intro wq hSw; (try simp only [Two, Kn, Facts, CellsAt] at hSw); go_simp; try with_reducible rfl)
 try simp only [Act.put, a7, b7, c7]
 refine wpAnyH_ready (rs := [5]) (by kernel_rfl) (by simp) ?rdy211
 refine AllReadyH.cons (ga7 rfl) (fun K hK => ?stp211) AllReadyH.nil
 go_simp
 go_wp2_with fail
 (refine (WD.out _).mono ?_; rintro e w4 ⟨rfl, hb4⟩)
 go_wp2_with fail
 refine hK.out _ _ ?hSn211 (fun hHeld2 => ?rest211)
 case hSn211 => with_reducible exact hHeld.below hb4
 clear hK K hHeld
 have hHeld := hHeld2
 clear hHeld2
 try simp only [Act.put, a7, b7, c7]
 refine w8 11 ((.int .i64 F)) (ga7 rfl) (by kernel_rfl) (fun _ _ _ h => h) ⟨by rfl, ?y212⟩ hHeld ?_
 case y212 => (intro wq hSw; (try simp only [Two, Kn, Facts, CellsAt] at hSw); go_simp; (all_goals (first | (rw [HF.out, hw1]) | (simp [HF.out, hw1]))))
 try simp only [Act.put, a7, b7, c7]
 refine w8 12 ?_ (ga7 rfl) (by kernel_rfl) (fun _ _ _ h => h) ⟨by rfl, ?y213⟩ hHeld ?_
 case y213 => (intro wq hSw; (try simp only [Two, Kn, Facts, CellsAt] at hSw); go_simp; try with_reducible rfl)
 try simp only [Act.put, a7, b7, c7]
 refine wpAnyH_done (by kernel_rfl) ?fin200 _
 have B := hHeld.bel
 have G := hHeld.1
 simp only [Facts, CellsAt] at G
 clear hHeld K0 hb4 WD HF r0 r1 r2 r3 r4 r5
 rcases CS.out with ⟨c1, rfl⟩ | ⟨c1, rfl, rfl⟩ | ⟨c1, rfl, c2, rfl⟩ | ⟨c1, rfl, c2, c3, rfl⟩ | ⟨c1, rfl, c2, c3, rfl⟩
 ·subst c1
  clear CS
  go_wp2
  go_ret
  exact ⟨by first | rfl | (simp; done) | (simp; omega) | (simp; assumption), B⟩
 ·have c1' : ¬ (i : Int) = 0 := by omega
  clear CS c1
  go_wp2
  go_ret
  exact ⟨by first | rfl | (simp; done) | (simp; omega) | (simp; assumption), B⟩
 ·have c1' : ¬ (i : Int) = 0 := by omega
  clear CS c1
  go_wp2
  go_ret
  exact ⟨by first | rfl | (simp; done) | (simp; omega) | (simp; assumption), B⟩
 ·have c1' : ¬ (i : Int) = 0 := by omega
  have c3' : (i : Int) = (N : Int) - 1 := by omega
  clear CS c1 c3
  go_wp2
  go_ret
  exact ⟨by first | rfl | (simp; done) | (simp; omega) | (simp; assumption), B⟩
 ·have c1' : ¬ (i : Int) = 0 := by omega
  have c3' : ¬ (i : Int) = (N : Int) - 1 := by omega
  clear CS c1 c3
  go_wp2
  go_ret
  exact ⟨by first | rfl | (simp; done) | (simp; omega) | (simp; assumption), B⟩


theorem add_none0 (g j : Nat) : (⟨g, 0, none⟩ : Addr).add j = ⟨g, j, none⟩ := by
 unfold Addr.add
 split <;> simp_all

set_option maxHeartbeats 1600000 in
theorem rhas06_c {v : Bool} {h l b : Int} {base r N i : Nat} {us : List Nat} {t : Bool} (ht : decide (i ∈ us) = t) (hl6 : us.length ≤ 65536) (w : World) (P : RpAt w base v h l b r N us) :
  Calls Tryz.prog 23 #[.pointer (some ⟨r, 0, none⟩), .int .i64 i] w fun e w' => e = .returned (.bool t) ∧ w' = w := by
 obtain ⟨sv, hb, ho⟩ := P.is
 obtain ⟨r0, r1, r2, r3, r4, r5, rl⟩ := hb.six
 have HT := hide ht
 have OH := hide ho
 obtain ⟨L, hL⟩ : ∃ L, us.length = L := ⟨_, rfl⟩
 have HL := hide hL
 rw [hL] at hl6 OH
 obtain ⟨q, cap, hs, hc⟩ : ∃ (q : Option Addr) (cap : Nat), sv = .slice q L cap ∧ (0 < L → ∃ g, q = some ⟨g, 0, none⟩ ∧ ∀ j (x : Nat), us[j]? = some x → w.cell? ⟨g, j, none⟩ = some (.int .i64 x)) := by
  rcases OH.out.2 with ⟨h1, h0⟩ | ⟨g, cap, cur, h1, _⟩
  ·exact ⟨none, 0, by rw [h1, h0], fun h => by omega⟩
  ·refine ⟨some ⟨g, 0, none⟩, cap, h1, fun _ => ⟨g, rfl, fun j x hx => ?_⟩⟩
   have := OH.out.cells (g := g) (by rw [h1]; rfl) j (.int .i64 x) (by rw [List.getElem?_map, hx]; rfl)
   rw [add_none0] at this
   exact this
 subst hs
 have HC := hide hc
 clear P hb ho ht hc hL OH
 go_enter Tryz.func23, Tryz.ntmps23
 go_wp2_with fail
 go_loopw [5] (fun k wr => ∃ j : Nat, j ≤ L ∧ k = .int .i64 j ∧ Hid (∀ z, z < j → us[z]? ≠ some i) ∧ wr = w) (fun k _ => L - (intOf k).toNat)
 case atStart => exact ⟨0, by omega, rfl, fun z hz => absurd hz (by omega), rfl⟩
 case round =>
  obtain ⟨j, hj, rfl, hq, rfl⟩ := hrel
  by_cases hlt : j < L
  ·have hlt' : (j : Int) < L := by omega
   obtain ⟨y, hy⟩ : ∃ y, us[j]? = some y := ⟨_, List.getElem?_eq_getElem (by rw [HL.out]; exact hlt)⟩
   obtain ⟨g, rfl, hg⟩ := HC.out (by omega)
   have c := hg j y hy
   by_cases e : y = i
   ·subst e
    have hin : Hid (t = true) := by show t = true; rw [← HT.out]; exact decide_eq_true (List.mem_of_getElem? hy)
    clear hq hy hg HC
    go_wp2
    go_ret
    exact ⟨by rw [hin.out]; rfl, rfl⟩
   ·have e' : ¬ (y : Int) = (i : Int) := by omega
    have hq' : Hid (∀ z, z < j + 1 → us[z]? ≠ some i) := fun z hz => by
     by_cases e2 : z = j
     ·subst e2; rw [hy]; simpa using e
     ·exact hq.out z (by omega)
    clear hq hy e hg
    go_wp2
    go_roundw
    case rel => exact ⟨j + 1, by omega, by go_num, hq', by first | rfl | trivial⟩
    case measure => simp [intOf]; omega
  ·have hlt' : ¬ (j : Int) < L := by omega
   have nin : Hid (t = false) := by
    show t = false
    rw [← HT.out]
    refine decide_eq_false fun hm => ?_
    obtain ⟨z, hz⟩ := List.mem_iff_getElem?.1 hm
    have : z < us.length := by
     apply Classical.byContradiction
     intro c
     rw [List.getElem?_eq_none (by omega)] at hz
     cases hz
    rw [HL.out] at this
    exact hq.out z (by omega) hz
   clear hq HC
   go_wp2
   go_ret
   exact ⟨by rw [nin.out]; rfl, rfl⟩

set_option maxRecDepth 100000 in
set_option maxHeartbeats 3200000 in
theorem raddr06_w {v : Bool} {h l b i rh rl W : Int} {r N : Nat} {sv : Value} (hi : IntKind.u64.wrap i = i) (hW : widthA v = W)
  (BK : Hid (∀ w', Calls Tryz.prog 101 #[pv v h l b, .int .i64 W, nv 0 i] w' fun e w1 => e = .returned (.tuple #[pv v rh rl W, .int .i64 0]) ∧ Below w'.heap.size w' w1)) (w : World)
  (hx : Blk w r #[.bool v, .int .u64 h, .int .u64 l, .int .i64 b, .int .i64 N, sv] 59) :
  Calls Tryz.prog 58 #[.pointer (some ⟨r, 0, none⟩), .int .i64 i] w fun e w' => e = .returned (av v rh rl) ∧ Below w.heap.size w w' := by
 have WD : Hid (∀ w', Calls Tryz.prog 43 #[av v h l] w' fun e w1 => e = .returned (.int .i64 W) ∧ Below w'.heap.size w' w1) := fun w' => rwidth_c v W hW h l w'
 have R0 : Kn w [(w.heap.size, [.bool false, .int .u64 0, .int .u64 0], 26), (r, [.bool v, .int .u64 h, .int .u64 l, .int .i64 b, .int .i64 N, sv], 59)] (w.alloc (.cells #[.bool false, .int .u64 0, .int .u64 0] 26)) := ((Kn.nil w).cons hx).push rfl
 have hxl := hx.lt
 obtain ⟨w0, hw0⟩ : ∃ w0, w0 = w.alloc (.cells #[.bool false, .int .u64 0, .int .u64 0] 26) := ⟨_, rfl⟩
 rw [← hw0] at R0
 have LT := R0.lts
 simp only [Lts] at LT
 have hs0 := R0.bel.size
 clear hx hW
 go_enter Tryz.func58, Tryz.ntmps58
 go_upto_region 1 with fail
 rw [← hw0]
 clear hw0
 go_cut [5, 6] (fun p t wc => ∃ X : Nat, p = .pointer (some ⟨X, 0, none⟩) ∧ t = .int .i64 0 ∧ w.heap.size < X ∧ Blk wc X #[.bool v, .int .u64 rh, .int .u64 rl, .int .i64 W] 28 ∧ Kn w [(w.heap.size, [.bool false, .int .u64 0, .int .u64 0], 26), (r, [.bool v, .int .u64 h, .int .u64 l, .int .i64 b, .int .i64 N, sv], 59)] wc)
 case first =>
  refine wp_region_held_drew (S := (Kn w [(w.heap.size, [.bool false, .int .u64 0, .int .u64 0], 26), (r, [.bool v, .int .u64 h, .int .u64 l, .int .i64 b, .int .i64 N, sv], 59)])) (by kernel_rfl) ?hS5001 (fun hHeld => ?rest5001)
  case hS5001 => (first | with_reducible exact R0.drew | with_reducible exact (R0.alloc _).drew | with_reducible exact hHeld.below hb4 | with_reducible exact hHeld.below hb5 | with_reducible exact hHeld.alloc _ | with_reducible exact K5.alloc _ | with_reducible exact hHeld.far4 (by simp only [Off]; repeat' (first | exact trivial | refine And.intro ?_ ?_ | omega)) (by omega) _ _ _ _ | with_reducible exact K5.far4 (by simp only [Off]; repeat' (first | exact trivial | refine And.intro ?_ ?_ | omega)) (by omega) _ _ _ _ | with_reducible exact (K5.alloc _).far4 (by simp only [Off]; repeat' (first | exact trivial | refine And.intro ?_ ?_ | omega)) (by omega) _ _ _ _)
  refine w8 0 ?_ (ga7 rfl) (by kernel_rfl) (fun _ _ _ h => h) ⟨by rfl, ?y5002⟩ hHeld ?_
  case y5002 => (intro wq hSw; (try simp only [Two, Kn, Facts, CellsAt] at hSw); go_simp; try with_reducible rfl)
  try simp only [Act.put, a7, b7, c7]
  refine w8 1 ?_ (ga7 rfl) (by kernel_rfl) (fun _ _ _ h => h) ⟨by rfl, ?y5003⟩ hHeld ?_
  case y5003 => (intro wq hSw; (try simp only [Two, Kn, Facts, CellsAt] at hSw); go_simp; try with_reducible rfl)
  try simp only [Act.put, a7, b7, c7]
  refine w8 2 ?_ (ga7 rfl) (by kernel_rfl) (fun _ _ _ h => h) ⟨by rfl, ?y5004⟩ hHeld ?_
  case y5004 => (intro wq hSw; (try simp only [Two, Kn, Facts, CellsAt] at hSw); go_simp; try with_reducible rfl)
  try simp only [Act.put, a7, b7, c7]
  refine w8 3 ?_ (ga7 rfl) (by kernel_rfl) (fun _ _ _ h => h) ⟨by rfl, ?y5005⟩ hHeld ?_
  case y5005 => (intro wq hSw; (try simp only [Two, Kn, Facts, CellsAt] at hSw); go_simp; try with_reducible rfl)
  try simp only [Act.put, a7, b7, c7]
  refine w8 4 ?_ (ga7 rfl) (by kernel_rfl) (fun _ _ _ h => h) ⟨by rfl, ?y5006⟩ hHeld ?_
  case y5006 => (intro wq hSw; (try simp only [Two, Kn, Facts, CellsAt] at hSw); go_simp; try with_reducible rfl)
  try simp only [Act.put, a7, b7, c7]
  refine w8 5 ?_ (ga7 rfl) (by kernel_rfl) (fun _ _ _ h => h) ⟨by rfl, ?y5007⟩ hHeld ?_
  case y5007 => (intro wq hSw; (try simp only [Two, Kn, Facts, CellsAt] at hSw); go_simp; try with_reducible rfl)
  try simp only [Act.put, a7, b7, c7]
  refine w8 6 ?_ (ga7 rfl) (by kernel_rfl) (fun _ _ _ h => h) ⟨by rfl, ?y5008⟩ hHeld ?_
  case y5008 => (intro wq hSw; (try simp only [Two, Kn, Facts, CellsAt] at hSw); go_simp; try with_reducible rfl)
  try simp only [Act.put, a7, b7, c7]
  refine w8 7 ?_ (ga7 rfl) (by kernel_rfl) (fun _ _ _ h => h) ⟨by rfl, ?y5009⟩ hHeld ?_
  case y5009 => (intro wq hSw; (try simp only [Two, Kn, Facts, CellsAt] at hSw); go_simp; try with_reducible rfl)
  try simp only [Act.put, a7, b7, c7]
  refine w8 8 ?_ (ga7 rfl) (by kernel_rfl) (fun _ _ _ h => h) ⟨by rfl, ?y5010⟩ hHeld ?_
  case y5010 => (intro wq hSw; (try simp only [Two, Kn, Facts, CellsAt] at hSw); go_simp; try with_reducible rfl)
  try simp only [Act.put, a7, b7, c7]
  refine w8 10 ?_ (ga7 rfl) (by kernel_rfl) (fun _ _ _ h => h) ⟨by rfl, ?y5011⟩ hHeld ?_
  case y5011 => (intro wq hSw; (try simp only [Two, Kn, Facts, CellsAt] at hSw); go_simp; try with_reducible rfl)
  try simp only [Act.put, a7, b7, c7]
  refine w8 11 ?_ (ga7 rfl) (by kernel_rfl) (fun _ _ _ h => h) ⟨by rfl, ?y5012⟩ hHeld ?_
  case y5012 => (intro wq hSw; (try simp only [Two, Kn, Facts, CellsAt] at hSw); go_simp; try with_reducible rfl)
  try simp only [Act.put, a7, b7, c7]
  refine w8 12 ?_ (ga7 rfl) (by kernel_rfl) (fun _ _ _ h => h) ⟨by rfl, ?y5013⟩ hHeld ?_
  case y5013 => (intro wq hSw; (try simp only [Two, Kn, Facts, CellsAt] at hSw); go_simp; try with_reducible rfl)
  try simp only [Act.put, a7, b7, c7]
  refine wpAnyH_ready (rs := [9, 17]) (by kernel_rfl) (by simp) ?rdy5014
  refine (AllReadyH.cons (ga7 rfl) (fun K hK => ?stp5014_9) (AllReadyH.cons (ga7 rfl) (fun K hK => ?stp5014_17) AllReadyH.nil))
  case stp5014_9 =>
   go_simp
   go_wp2_with fail
   (refine (WD.out _).mono ?_; rintro e w4 ⟨rfl, hb4⟩; have s4 : w0.heap.size ≤ w4.heap.size := (by have := hb4.size; first | exact this | (simp at this; omega)); first | (have U4 : Blk w4 w0.heap.size #[.bool false, .int .u64 0, .int .u64 0, .int .i64 0] 28 := Blk.via hb4 (Blk.new w0 #[.bool false, .int .u64 0, .int .u64 0, .int .i64 0] 28) rfl; obtain ⟨u0, u1, u2, u3, u4, u5, u6, u7, u8⟩ := U4.four) | skip)
   go_wp2_with fail
   refine hK.out _ _ ?hSn5015 (fun hHeld2 => ?rest5015)
   case hSn5015 => (first | with_reducible exact R0.drew | with_reducible exact (R0.alloc _).drew | with_reducible exact hHeld.below hb4 | with_reducible exact hHeld.below hb5 | with_reducible exact hHeld.alloc _ | with_reducible exact K5.alloc _ | with_reducible exact hHeld.far4 (by simp only [Off]; repeat' (first | exact trivial | refine And.intro ?_ ?_ | omega)) (by omega) _ _ _ _ | with_reducible exact K5.far4 (by simp only [Off]; repeat' (first | exact trivial | refine And.intro ?_ ?_ | omega)) (by omega) _ _ _ _ | with_reducible exact (K5.alloc _).far4 (by simp only [Off]; repeat' (first | exact trivial | refine And.intro ?_ ?_ | omega)) (by omega) _ _ _ _)
   clear hK K hHeld
   have hHeld := hHeld2
   clear hHeld2
   try simp only [Act.put, a7, b7, c7]
   refine wpAnyH_ready (rs := [13, 17]) (by kernel_rfl) (by simp) ?rdy5016
   refine (AllReadyH.cons (ga7 rfl) (fun K hK => ?stp5016_13) (AllReadyH.cons (ga7 rfl) (fun K hK => ?stp5016_17) AllReadyH.nil))
   case stp5016_13 =>
    go_simp
    go_wp2_with fail
    (refine (BK.out _).mono ?_; rintro e w5 ⟨rfl, hb5⟩; have K5 := hHeld.below hb5; have s5 : w4.heap.size ≤ w5.heap.size := (by have := hb5.size; first | exact this | (simp at this; omega)); first | (have U5 := U4.below hb5; obtain ⟨a0, a1, a2, a3, a4, a5, a6, a7, a8⟩ := U5.four) | (have U5 : Blk w5 w4.heap.size #[.bool false, .int .u64 0, .int .u64 0, .int .i64 0] 28 := Blk.via hb5 (Blk.new w4 #[.bool false, .int .u64 0, .int .u64 0, .int .i64 0] 28) rfl; obtain ⟨p0, p1, p2, p3, p4, p5, p6, p7, p8⟩ := U5.four) | skip)
    go_wp2_with fail
    refine hK.out _ _ ?hSn5017 (fun hHeld2 => ?rest5017)
    case hSn5017 => (first | with_reducible exact R0.drew | with_reducible exact (R0.alloc _).drew | with_reducible exact hHeld.below hb4 | with_reducible exact hHeld.below hb5 | with_reducible exact hHeld.alloc _ | with_reducible exact K5.alloc _ | with_reducible exact hHeld.far4 (by simp only [Off]; repeat' (first | exact trivial | refine And.intro ?_ ?_ | omega)) (by omega) _ _ _ _ | with_reducible exact K5.far4 (by simp only [Off]; repeat' (first | exact trivial | refine And.intro ?_ ?_ | omega)) (by omega) _ _ _ _ | with_reducible exact (K5.alloc _).far4 (by simp only [Off]; repeat' (first | exact trivial | refine And.intro ?_ ?_ | omega)) (by omega) _ _ _ _)
    clear hK K hHeld
    have hHeld := hHeld2
    clear hHeld2
    try simp only [Act.put, a7, b7, c7]
    refine w8 14 ?_ (ga7 rfl) (by kernel_rfl) (fun _ _ _ h => h) ⟨by rfl, ?y5018⟩ hHeld ?_
    case y5018 => (intro wq hSw; (try simp only [Two, Kn, Facts, CellsAt] at hSw); go_simp; try with_reducible rfl)
    try simp only [Act.put, a7, b7, c7]
    refine w8 15 ?_ (ga7 rfl) (by kernel_rfl) (fun _ _ _ h => h) ⟨by rfl, ?y5019⟩ hHeld ?_
    case y5019 => (intro wq hSw; (try simp only [Two, Kn, Facts, CellsAt] at hSw); go_simp; try with_reducible rfl)
    try simp only [Act.put, a7, b7, c7]
    refine w8 16 ?_ (ga7 rfl) (by kernel_rfl) (fun _ _ _ h => h) ⟨by rfl, ?y5020⟩ hHeld ?_
    case y5020 => (intro wq hSw; (try simp only [Two, Kn, Facts, CellsAt] at hSw); go_simp; try with_reducible rfl)
    try simp only [Act.put, a7, b7, c7]
    refine wpAnyH_ready (rs := [17]) (by kernel_rfl) (by simp) ?rdy5021
    refine (AllReadyH.cons (ga7 rfl) (fun K hK => ?stp5021_17) AllReadyH.nil)
    case stp5021_17 =>
     go_simp
     go_wp2_with fail
     refine hK.out _ _ ?hSn5022 (fun hHeld2 => ?rest5022)
     case hSn5022 => (first | with_reducible exact R0.drew | with_reducible exact (R0.alloc _).drew | with_reducible exact hHeld.below hb4 | with_reducible exact hHeld.below hb5 | with_reducible exact hHeld.alloc _ | with_reducible exact K5.alloc _ | with_reducible exact hHeld.far4 (by simp only [Off]; repeat' (first | exact trivial | refine And.intro ?_ ?_ | omega)) (by omega) _ _ _ _ | with_reducible exact K5.far4 (by simp only [Off]; repeat' (first | exact trivial | refine And.intro ?_ ?_ | omega)) (by omega) _ _ _ _ | with_reducible exact (K5.alloc _).far4 (by simp only [Off]; repeat' (first | exact trivial | refine And.intro ?_ ?_ | omega)) (by omega) _ _ _ _)
     clear hK K hHeld
     have hHeld := hHeld2
     clear hHeld2
     try simp only [Act.put, a7, b7, c7]
     refine wpAnyH_ready (rs := [18]) (by kernel_rfl) (by simp) ?rdy5023
     refine (AllReadyH.cons (ga7 rfl) (fun K hK => ?stp5023_18) AllReadyH.nil)
     case stp5023_18 =>
      go_simp
      go_wp2_with fail
      refine hK.out _ _ ?hSn5024 (fun hHeld2 => ?rest5024)
      case hSn5024 => (first | with_reducible exact R0.drew | with_reducible exact (R0.alloc _).drew | with_reducible exact hHeld.below hb4 | with_reducible exact hHeld.below hb5 | with_reducible exact hHeld.alloc _ | with_reducible exact K5.alloc _ | with_reducible exact hHeld.far4 (by simp only [Off]; repeat' (first | exact trivial | refine And.intro ?_ ?_ | omega)) (by omega) _ _ _ _ | with_reducible exact K5.far4 (by simp only [Off]; repeat' (first | exact trivial | refine And.intro ?_ ?_ | omega)) (by omega) _ _ _ _ | with_reducible exact (K5.alloc _).far4 (by simp only [Off]; repeat' (first | exact trivial | refine And.intro ?_ ?_ | omega)) (by omega) _ _ _ _)
      clear hK K hHeld
      have hHeld := hHeld2
      clear hHeld2
      try simp only [Act.put, a7, b7, c7]
      refine w8 19 ?_ (ga7 rfl) (by kernel_rfl) (fun _ _ _ h => h) ⟨by rfl, ?y5025⟩ hHeld ?_
      case y5025 => (intro wq hSw; (try simp only [Two, Kn, Facts, CellsAt] at hSw); go_simp; try with_reducible rfl)
      try simp only [Act.put, a7, b7, c7]
      refine wpAnyH_done (by kernel_rfl) ?_ _
      go_wp2_with fail
      go_meet
      case rel => exact ⟨_, rfl, rfl, (by omega), (by repeat (first | with_reducible exact Blk.new _ _ _ | with_reducible exact U5 | with_reducible refine Blk.put4 (x := .bool false) (y := .int .u64 0) (z := .int .u64 0) (q := .int .i64 0) ?_ _ _ _ _)), hHeld⟩
   case stp5016_17 =>
    go_simp
    go_wp2_with fail
    refine hK.out _ _ ?hSn5026 (fun hHeld2 => ?rest5026)
    case hSn5026 => (first | with_reducible exact R0.drew | with_reducible exact (R0.alloc _).drew | with_reducible exact hHeld.below hb4 | with_reducible exact hHeld.below hb5 | with_reducible exact hHeld.alloc _ | with_reducible exact K5.alloc _ | with_reducible exact hHeld.far4 (by simp only [Off]; repeat' (first | exact trivial | refine And.intro ?_ ?_ | omega)) (by omega) _ _ _ _ | with_reducible exact K5.far4 (by simp only [Off]; repeat' (first | exact trivial | refine And.intro ?_ ?_ | omega)) (by omega) _ _ _ _ | with_reducible exact (K5.alloc _).far4 (by simp only [Off]; repeat' (first | exact trivial | refine And.intro ?_ ?_ | omega)) (by omega) _ _ _ _)
    clear hK K hHeld
    have hHeld := hHeld2
    clear hHeld2
    try simp only [Act.put, a7, b7, c7]
    refine wpAnyH_ready (rs := [13]) (by kernel_rfl) (by simp) ?rdy5027
    refine (AllReadyH.cons (ga7 rfl) (fun K hK => ?stp5027_13) AllReadyH.nil)
    case stp5027_13 =>
     go_simp
     go_wp2_with fail
     (refine (BK.out _).mono ?_; rintro e w5 ⟨rfl, hb5⟩; have K5 := hHeld.below hb5; have s5 : w4.heap.size ≤ w5.heap.size := (by have := hb5.size; first | exact this | (simp at this; omega)); first | (have U5 := U4.below hb5; obtain ⟨a0, a1, a2, a3, a4, a5, a6, a7, a8⟩ := U5.four) | (have U5 : Blk w5 w4.heap.size #[.bool false, .int .u64 0, .int .u64 0, .int .i64 0] 28 := Blk.via hb5 (Blk.new w4 #[.bool false, .int .u64 0, .int .u64 0, .int .i64 0] 28) rfl; obtain ⟨p0, p1, p2, p3, p4, p5, p6, p7, p8⟩ := U5.four) | skip)
     go_wp2_with fail
     refine hK.out _ _ ?hSn5028 (fun hHeld2 => ?rest5028)
     case hSn5028 => (first | with_reducible exact R0.drew | with_reducible exact (R0.alloc _).drew | with_reducible exact hHeld.below hb4 | with_reducible exact hHeld.below hb5 | with_reducible exact hHeld.alloc _ | with_reducible exact K5.alloc _ | with_reducible exact hHeld.far4 (by simp only [Off]; repeat' (first | exact trivial | refine And.intro ?_ ?_ | omega)) (by omega) _ _ _ _ | with_reducible exact K5.far4 (by simp only [Off]; repeat' (first | exact trivial | refine And.intro ?_ ?_ | omega)) (by omega) _ _ _ _ | with_reducible exact (K5.alloc _).far4 (by simp only [Off]; repeat' (first | exact trivial | refine And.intro ?_ ?_ | omega)) (by omega) _ _ _ _)
     clear hK K hHeld
     have hHeld := hHeld2
     clear hHeld2
     try simp only [Act.put, a7, b7, c7]
     refine w8 14 ?_ (ga7 rfl) (by kernel_rfl) (fun _ _ _ h => h) ⟨by rfl, ?y5029⟩ hHeld ?_
     case y5029 => (intro wq hSw; (try simp only [Two, Kn, Facts, CellsAt] at hSw); go_simp; try with_reducible rfl)
     try simp only [Act.put, a7, b7, c7]
     refine w8 15 ?_ (ga7 rfl) (by kernel_rfl) (fun _ _ _ h => h) ⟨by rfl, ?y5030⟩ hHeld ?_
     case y5030 => (intro wq hSw; (try simp only [Two, Kn, Facts, CellsAt] at hSw); go_simp; try with_reducible rfl)
     try simp only [Act.put, a7, b7, c7]
     refine w8 16 ?_ (ga7 rfl) (by kernel_rfl) (fun _ _ _ h => h) ⟨by rfl, ?y5031⟩ hHeld ?_
     case y5031 => (intro wq hSw; (try simp only [Two, Kn, Facts, CellsAt] at hSw); go_simp; try with_reducible rfl)
     try simp only [Act.put, a7, b7, c7]
     refine wpAnyH_ready (rs := [18]) (by kernel_rfl) (by simp) ?rdy5032
     refine (AllReadyH.cons (ga7 rfl) (fun K hK => ?stp5032_18) AllReadyH.nil)
     case stp5032_18 =>
      go_simp
      go_wp2_with fail
      refine hK.out _ _ ?hSn5033 (fun hHeld2 => ?rest5033)
      case hSn5033 => (first | with_reducible exact R0.drew | with_reducible exact (R0.alloc _).drew | with_reducible exact hHeld.below hb4 | with_reducible exact hHeld.below hb5 | with_reducible exact hHeld.alloc _ | with_reducible exact K5.alloc _ | with_reducible exact hHeld.far4 (by simp only [Off]; repeat' (first | exact trivial | refine And.intro ?_ ?_ | omega)) (by omega) _ _ _ _ | with_reducible exact K5.far4 (by simp only [Off]; repeat' (first | exact trivial | refine And.intro ?_ ?_ | omega)) (by omega) _ _ _ _ | with_reducible exact (K5.alloc _).far4 (by simp only [Off]; repeat' (first | exact trivial | refine And.intro ?_ ?_ | omega)) (by omega) _ _ _ _)
      clear hK K hHeld
      have hHeld := hHeld2
      clear hHeld2
      try simp only [Act.put, a7, b7, c7]
      refine w8 19 ?_ (ga7 rfl) (by kernel_rfl) (fun _ _ _ h => h) ⟨by rfl, ?y5034⟩ hHeld ?_
      case y5034 => (intro wq hSw; (try simp only [Two, Kn, Facts, CellsAt] at hSw); go_simp; try with_reducible rfl)
      try simp only [Act.put, a7, b7, c7]
      refine wpAnyH_done (by kernel_rfl) ?_ _
      go_wp2_with fail
      go_meet
      case rel => exact ⟨_, rfl, rfl, (by omega), (by repeat (first | with_reducible exact Blk.new _ _ _ | with_reducible exact U5 | with_reducible refine Blk.put4 (x := .bool false) (y := .int .u64 0) (z := .int .u64 0) (q := .int .i64 0) ?_ _ _ _ _)), hHeld⟩
  case stp5014_17 =>
   go_simp
   go_wp2_with fail
   refine hK.out _ _ ?hSn5035 (fun hHeld2 => ?rest5035)
   case hSn5035 => (first | with_reducible exact R0.drew | with_reducible exact (R0.alloc _).drew | with_reducible exact hHeld.below hb4 | with_reducible exact hHeld.below hb5 | with_reducible exact hHeld.alloc _ | with_reducible exact K5.alloc _ | with_reducible exact hHeld.far4 (by simp only [Off]; repeat' (first | exact trivial | refine And.intro ?_ ?_ | omega)) (by omega) _ _ _ _ | with_reducible exact K5.far4 (by simp only [Off]; repeat' (first | exact trivial | refine And.intro ?_ ?_ | omega)) (by omega) _ _ _ _ | with_reducible exact (K5.alloc _).far4 (by simp only [Off]; repeat' (first | exact trivial | refine And.intro ?_ ?_ | omega)) (by omega) _ _ _ _)
   clear hK K hHeld
   have hHeld := hHeld2
   clear hHeld2
   try simp only [Act.put, a7, b7, c7]
   refine wpAnyH_ready (rs := [9]) (by kernel_rfl) (by simp) ?rdy5036
   refine (AllReadyH.cons (ga7 rfl) (fun K hK => ?stp5036_9) AllReadyH.nil)
   case stp5036_9 =>
    go_simp
    go_wp2_with fail
    (refine (WD.out _).mono ?_; rintro e w4 ⟨rfl, hb4⟩; have s4 : w0.heap.size ≤ w4.heap.size := (by have := hb4.size; first | exact this | (simp at this; omega)); first | (have U4 : Blk w4 w0.heap.size #[.bool false, .int .u64 0, .int .u64 0, .int .i64 0] 28 := Blk.via hb4 (Blk.new w0 #[.bool false, .int .u64 0, .int .u64 0, .int .i64 0] 28) rfl; obtain ⟨u0, u1, u2, u3, u4, u5, u6, u7, u8⟩ := U4.four) | skip)
    go_wp2_with fail
    refine hK.out _ _ ?hSn5037 (fun hHeld2 => ?rest5037)
    case hSn5037 => (first | with_reducible exact R0.drew | with_reducible exact (R0.alloc _).drew | with_reducible exact hHeld.below hb4 | with_reducible exact hHeld.below hb5 | with_reducible exact hHeld.alloc _ | with_reducible exact K5.alloc _ | with_reducible exact hHeld.far4 (by simp only [Off]; repeat' (first | exact trivial | refine And.intro ?_ ?_ | omega)) (by omega) _ _ _ _ | with_reducible exact K5.far4 (by simp only [Off]; repeat' (first | exact trivial | refine And.intro ?_ ?_ | omega)) (by omega) _ _ _ _ | with_reducible exact (K5.alloc _).far4 (by simp only [Off]; repeat' (first | exact trivial | refine And.intro ?_ ?_ | omega)) (by omega) _ _ _ _)
    clear hK K hHeld
    have hHeld := hHeld2
    clear hHeld2
    try simp only [Act.put, a7, b7, c7]
    refine wpAnyH_ready (rs := [13]) (by kernel_rfl) (by simp) ?rdy5038
    refine (AllReadyH.cons (ga7 rfl) (fun K hK => ?stp5038_13) AllReadyH.nil)
    case stp5038_13 =>
     go_simp
     go_wp2_with fail
     (refine (BK.out _).mono ?_; rintro e w5 ⟨rfl, hb5⟩; have K5 := hHeld.below hb5; have s5 : w4.heap.size ≤ w5.heap.size := (by have := hb5.size; first | exact this | (simp at this; omega)); first | (have U5 := U4.below hb5; obtain ⟨a0, a1, a2, a3, a4, a5, a6, a7, a8⟩ := U5.four) | (have U5 : Blk w5 w4.heap.size #[.bool false, .int .u64 0, .int .u64 0, .int .i64 0] 28 := Blk.via hb5 (Blk.new w4 #[.bool false, .int .u64 0, .int .u64 0, .int .i64 0] 28) rfl; obtain ⟨p0, p1, p2, p3, p4, p5, p6, p7, p8⟩ := U5.four) | skip)
     go_wp2_with fail
     refine hK.out _ _ ?hSn5039 (fun hHeld2 => ?rest5039)
     case hSn5039 => (first | with_reducible exact R0.drew | with_reducible exact (R0.alloc _).drew | with_reducible exact hHeld.below hb4 | with_reducible exact hHeld.below hb5 | with_reducible exact hHeld.alloc _ | with_reducible exact K5.alloc _ | with_reducible exact hHeld.far4 (by simp only [Off]; repeat' (first | exact trivial | refine And.intro ?_ ?_ | omega)) (by omega) _ _ _ _ | with_reducible exact K5.far4 (by simp only [Off]; repeat' (first | exact trivial | refine And.intro ?_ ?_ | omega)) (by omega) _ _ _ _ | with_reducible exact (K5.alloc _).far4 (by simp only [Off]; repeat' (first | exact trivial | refine And.intro ?_ ?_ | omega)) (by omega) _ _ _ _)
     clear hK K hHeld
     have hHeld := hHeld2
     clear hHeld2
     try simp only [Act.put, a7, b7, c7]
     refine w8 14 ?_ (ga7 rfl) (by kernel_rfl) (fun _ _ _ h => h) ⟨by rfl, ?y5040⟩ hHeld ?_
     case y5040 => (intro wq hSw; (try simp only [Two, Kn, Facts, CellsAt] at hSw); go_simp; try with_reducible rfl)
     try simp only [Act.put, a7, b7, c7]
     refine w8 15 ?_ (ga7 rfl) (by kernel_rfl) (fun _ _ _ h => h) ⟨by rfl, ?y5041⟩ hHeld ?_
     case y5041 => (intro wq hSw; (try simp only [Two, Kn, Facts, CellsAt] at hSw); go_simp; try with_reducible rfl)
     try simp only [Act.put, a7, b7, c7]
     refine w8 16 ?_ (ga7 rfl) (by kernel_rfl) (fun _ _ _ h => h) ⟨by rfl, ?y5042⟩ hHeld ?_
     case y5042 => (intro wq hSw; (try simp only [Two, Kn, Facts, CellsAt] at hSw); go_simp; try with_reducible rfl)
     try simp only [Act.put, a7, b7, c7]
     refine wpAnyH_ready (rs := [18]) (by kernel_rfl) (by simp) ?rdy5043
     refine (AllReadyH.cons (ga7 rfl) (fun K hK => ?stp5043_18) AllReadyH.nil)
     case stp5043_18 =>
      go_simp
      go_wp2_with fail
      refine hK.out _ _ ?hSn5044 (fun hHeld2 => ?rest5044)
      case hSn5044 => (first | with_reducible exact R0.drew | with_reducible exact (R0.alloc _).drew | with_reducible exact hHeld.below hb4 | with_reducible exact hHeld.below hb5 | with_reducible exact hHeld.alloc _ | with_reducible exact K5.alloc _ | with_reducible exact hHeld.far4 (by simp only [Off]; repeat' (first | exact trivial | refine And.intro ?_ ?_ | omega)) (by omega) _ _ _ _ | with_reducible exact K5.far4 (by simp only [Off]; repeat' (first | exact trivial | refine And.intro ?_ ?_ | omega)) (by omega) _ _ _ _ | with_reducible exact (K5.alloc _).far4 (by simp only [Off]; repeat' (first | exact trivial | refine And.intro ?_ ?_ | omega)) (by omega) _ _ _ _)
      clear hK K hHeld
      have hHeld := hHeld2
      clear hHeld2
      try simp only [Act.put, a7, b7, c7]
      refine w8 19 ?_ (ga7 rfl) (by kernel_rfl) (fun _ _ _ h => h) ⟨by rfl, ?y5045⟩ hHeld ?_
      case y5045 => (intro wq hSw; (try simp only [Two, Kn, Facts, CellsAt] at hSw); go_simp; try with_reducible rfl)
      try simp only [Act.put, a7, b7, c7]
      refine wpAnyH_done (by kernel_rfl) ?_ _
      go_wp2_with fail
      go_meet
      case rel => exact ⟨_, rfl, rfl, (by omega), (by repeat (first | with_reducible exact Blk.new _ _ _ | with_reducible exact U5 | with_reducible refine Blk.put4 (x := .bool false) (y := .int .u64 0) (z := .int .u64 0) (q := .int .i64 0) ?_ _ _ _ _)), hHeld⟩
 case rest =>
  obtain ⟨X, rfl, rfl, hX, N1, R⟩ := hcut
  obtain ⟨x0, x1, x2, x3, x4, x5, x6, x7, x8⟩ := N1.four
  obtain ⟨r0, r1, r2, r3, r4, r5, r6⟩ := R.2.1.1.three
  have B := R.bel
  have ne1 : ¬ X = w.heap.size := by omega
  clear R0 R N1 LT hs0 WD BK
  go_wp2
  refine bodyPost_ret (v := av v rh rl) (by simp [results, Tryz.results58, go_sem, World.cell?_setCell_same', World.cell?_setCell_other, *]) rfl ⟨rfl, by repeat (first | with_reducible exact Below.refl _ _ | with_reducible refine Below.drew ?_ | with_reducible refine Below.alloc ?_ (by first | omega | (simp <;> omega)) _ | with_reducible refine Below.setCell ?_ (by first | omega | (simp <;> omega)) _ | with_reducible refine Below.trans ?_ (Below.mono B (by first | omega | (simp <;> omega))))⟩

theorem raddr06_c {v : Bool} {h l b rh rl : Int} {base r n N i : Nat} {us : List Nat} (hp : IsNum h l n) (ok : okP v n b = true) (hi : i < szP v n b) (hr : IsNum rh rl (n + i)) (w : World) (P : RpAt w base v h l b r N us) :
  Calls Tryz.prog 58 #[.pointer (some ⟨r, 0, none⟩), .int .i64 i] w fun e w' => e = .returned (av v rh rl) ∧ Below w.heap.size w w' := by
 obtain ⟨W, hW⟩ : ∃ W, widthA v = W := ⟨_, rfl⟩
 obtain ⟨hc, hlt, hblk⟩ := host_blk hW ok hi
 have le := szP_le (v := v) (n := n) (b := b)
 have ii : IsNum 0 (i : Int) i := ⟨by omega, by omega, by omega, by omega, by omega⟩
 obtain ⟨sv, hb, _⟩ := P.is
 exact raddr06_w (by simp [IntKind.wrap, IntKind.bits, IntKind.signed]; omega) hW (fun w' => rbk_ok hp ii hc hlt (hr.cast hblk.symm) w') w hb


/-- What is not to be given: what is kept, and what is used. -/
def usF (lk : Bool) (N : Nat) (us : List Nat) : Nat → Bool := fun p => kpF lk N p || decide (p ∈ us)

/-- A row's block is not the block of a value of another type. -/
theorem own_ne {W : World} {base size k r : Nat} {e t : TypeId} {sv : Value} {xs : List Value} {cs : Array Value} (h : W.ownsRow base e size sv k xs) (hb : Blk W r cs t) (hne : e ≠ t) : sv.ownBlock ≠ some r := by
 intro c
 rcases h.2 with ⟨h1, _⟩ | ⟨g', cap, cur, h1, h2, h3, h4⟩
 ·rw [h1] at c; cases c
 ·rw [h1] at c
  simp [Value.ownBlock] at c
  subst c
  unfold Blk at hb
  rw [hb] at h3
  cases h3
  exact hne rfl

/-- Behind the store of the grown row. -/
theorem rp_store {W W' : World} {base : Nat} {v : Bool} {h l b : Int} {r N : Nat} {us : List Nat} {p : Nat} {sv sv' : Value} {o : Obj} (hb : Blk W r #[.bool v, .int .u64 h, .int .u64 l, .int .i64 b, .int .i64 N, sv] 59) (ho : W.ownsRow base 3 1 sv us.length (us.map fun i : Nat => Value.int .i64 (i : Int)))
  (hown : W'.ownsRow base 3 1 sv' (us.length + 1) ((us.map fun i : Nat => Value.int .i64 (i : Int)) ++ [.int .i64 (p : Int)])) (hg : (W.alloc o).grownBy W' sv.ownBlock) :
  RpAt (W'.setCell ⟨r, 5, none⟩ sv') base v h l b r N (us ++ [p]) := by
 have hb' : Blk W' r #[.bool v, .int .u64 h, .int .u64 l, .int .i64 b, .int .i64 N, sv] 59 := by
  have := hb.alloc o
  unfold Blk at this ⊢
  rw [hg.block r (by have := hb.lt; simp; omega) (fun c => own_ne ho hb (by decide) c.symm)]
  exact this
 have hne := own_ne hown hb' (by decide)
 refine ⟨sv', hb'.put 5 sv', ?_⟩
 rw [List.length_append, List.map_append]
 refine ⟨hown.1, ?_⟩
 rcases hown.2 with ⟨h1, h2⟩ | ⟨g', cap, cur, h1, h2, h3, h4⟩
 ·omega
 ·refine Or.inr ⟨g', cap, cur, h1, h2, ?_, h4⟩
  have n2 : g' ≠ r := fun c => hne (by rw [h1]; subst c; rfl)
  rw [Deep.blk_setCell_other _ ⟨r, 5, none⟩ _ g' (by simpa using n2)]
  exact h3

theorem rp_grown {W W' : World} {base r : Nat} {L : Nat} {t : TypeId} {cs : Array Value} {xs : List Value} {sv : Value} {o : Obj} (hb : Blk W r cs t) (ho : W.ownsRow base 3 1 sv L xs) (ht : 3 ≠ t) (hg : (W.alloc o).grownBy W' sv.ownBlock) : Blk W' r cs t := by
 have := hb.alloc o
 unfold Blk at this ⊢
 rw [hg.block r (by have := hb.lt; simp; omega) (fun c => own_ne ho hb ht c.symm)]
 exact this

theorem rp_far {W : World} {base : Nat} {v : Bool} {h l b : Int} {r N c : Nat} {us : List Nat} {cs : Array Value} (P : RpAt W base v h l b r N us) (R : Blk W c cs 26) (hc : c ≠ r) (i : Nat) (u : Value) : RpAt (W.setCell ⟨c, i, none⟩ u) base v h l b r N us := by
 obtain ⟨sv, h1, h2⟩ := P.is
 refine ⟨sv, h1.far (fun e => hc e.symm) i u, h2.1, ?_⟩
 rcases h2.2 with h3 | ⟨g', cap, cur, h3, h4, h5, h6⟩
 ·exact Or.inl h3
 ·refine Or.inr ⟨g', cap, cur, h3, h4, ?_, h6⟩
  have n2 : g' ≠ c := fun e => own_ne h2 R (by decide) (by rw [h3]; subst e; rfl)
  rw [Deep.blk_setCell_other _ ⟨c, i, none⟩ _ g' (by simpa using n2)]
  exact h5

theorem free_parts {lk : Bool} {N p : Nat} {us : List Nat} (h : usF lk N us p = false) : kpF lk N p = false ∧ decide (p ∈ us) = false := by
 unfold usF at h
 simpa using h

theorem busy_parts {lk : Bool} {N p : Nat} {us : List Nat} (h : usF lk N us p = true) : kpF lk N p = true ∨ (kpF lk N p = false ∧ decide (p ∈ us) = true) := by
 unfold usF at h
 cases e : kpF lk N p
 ·rw [e] at h
  exact Or.inr ⟨rfl, by simpa using h⟩
 ·exact Or.inl rfl

theorem round_step {s j N : Nat} (h0 : 0 < N) : (s + (j + 1)) % N = if (s + j) % N + 1 = N then 0 else (s + j) % N + 1 := by
 have d := Nat.div_add_mod (s + j) N
 have m := Nat.mod_lt (s + j) h0
 rw [show s + (j + 1) = ((s + j) % N + 1) + N * ((s + j) / N) by omega, Nat.add_mul_mod_self_left]
 split
 ·rename_i c; rw [c]; exact Nat.mod_self _
 ·rename_i c; exact Nat.mod_eq_of_lt (by omega)

set_option maxRecDepth 100000 in
set_option maxHeartbeats 6400000 in
theorem rnext06_ok {v : Bool} {h l b rh rl : Int} {base r n p s k : Nat} {us : List Nat} {o : Int} (hp : IsNum h l n) (h0 : 0 < szP v n b) (o1 : o ≤ 9223372036854775807) (o0 : -9223372036854775808 ≤ o) (hs : s = o.toNat % szP v n b) (hk : k < szP v n b) (hpk : p = (s + k) % szP v n b)
  (hbusy : ∀ j, j < k → usF (lkP v b) (szP v n b) us ((s + j) % szP v n b) = true) (hfree : usF (lkP v b) (szP v n b) us p = false) (hr : IsNum rh rl (n + p)) (hus : us.length ≤ 60) (w : World) (hbase : base ≤ w.heap.size) (hrb : base ≤ r) (P : RpAt w base v h l b r (szP v n b) us) :
  Calls Tryz.prog 56 #[.pointer (some ⟨r, 0, none⟩), .int .i64 o] w fun e w' => e = .returned (.tuple #[av v rh rl, .int .i64 0]) ∧ RpAt w' base v h l b r (szP v n b) (us ++ [p]) ∧ Below base w w' ∧ (∀ c cs t, Blk w c cs t → 3 ≠ t → c ≠ r → Blk w' c cs t) := by
 have ok := szP_ok h0
 have le := szP_le (v := v) (n := n) (b := b)
 have hpN : p < szP v n b := by rw [hpk]; exact Nat.mod_lt _ h0
 have hsN : s < szP v n b := by rw [hs]; exact Nat.mod_lt _ h0
 have KE := hide (fun (I : Int) (i : Nat) (hI : I = (i : Int)) (hi : i ≤ 65536) (t : Bool) (ht : kpF (lkP v b) (szP v n b) i = t) w' (P' : RpAt w' base v h l b r (szP v n b) us) => rkept06_c hI hi h0 le hp ok ht w' P')
 have HS := hide (fun (I : Int) (i : Nat) (hI : I = (i : Int)) (t : Bool) (ht : decide (i ∈ us) = t) w' (P' : RpAt w' base v h l b r (szP v n b) us) => (show Calls Tryz.prog 23 #[.pointer (some ⟨r, 0, none⟩), .int .i64 I] w' _ from hI ▸ rhas06_c ht (by omega) w' P'))
 have AD := hide (fun (I : Int) (hI : I = (p : Int)) w' (P' : RpAt w' base v h l b r (szP v n b) (us ++ [p])) => (show Calls Tryz.prog 58 #[.pointer (some ⟨r, 0, none⟩), .int .i64 I] w' _ from hI ▸ raddr06_c hp ok hpN hr w' P'))
 obtain ⟨N, hN⟩ : ∃ N, szP v n b = N := ⟨_, rfl⟩
 rw [hN] at KE HS AD h0 hs hk hpk hbusy hfree le hpN hsN P ⊢
 have HBZ := hide hbusy
 have HFR := hide hfree
 have HPK := hide hpk
 obtain ⟨i0, hi, hz0, hz1, hz2⟩ := info_parts infoInt
 have bl : Below w.heap.size w (w.alloc (.cells #[.bool false, .int .u64 0, .int .u64 0] 26)) := by repeat (first | with_reducible exact Below.refl _ _ | with_reducible refine Below.drew ?_ | with_reducible refine Below.alloc ?_ (by first | omega | (simp <;> omega)) _ | with_reducible refine Below.setCell ?_ (by first | omega | (simp <;> omega)) _)
 have PH := hide (P.below bl)
 have RH := hide (Blk.new w #[.bool false, .int .u64 0, .int .u64 0] 26)
 have BH := hide bl
 obtain ⟨sv0, hb0, ho0⟩ := P.is
 obtain ⟨r0, r1, r2, r3, r4, r5, rl0⟩ := hb0.six
 have hz : ((N : Int) == 0) = false := by simp; omega
 have em : (o < 0 ∧ s = 0) ∨ (0 ≤ o ∧ o % (N : Int) = (s : Int)) := by
  by_cases h : o < 0
  ·left
   refine ⟨h, ?_⟩
   rw [hs, show o.toNat = 0 by omega, Nat.zero_mod]
  ·right
   refine ⟨by omega, ?_⟩
   rw [hs]
   obtain ⟨m, rfl⟩ := Int.eq_ofNat_of_zero_le (show 0 ≤ o by omega)
   simp
 have ST : Hid (∀ q : Int, q = (s : Int) → q = (((s + 0) % N : Nat) : Int) ∧ 0 ≤ q ∧ q < N) := fun q e => by
  rw [Nat.add_zero, Nat.mod_eq_of_lt hsN]
  omega
 have hrne : Hid (w.heap.size ≠ r) := by show _ ≠ _; omega
 clear bl P hb0 ho0 hbusy hfree hpk hs hp ok hr hN hpN hsN
 rcases em with ⟨hi1, em⟩ | ⟨hi1, em⟩
 all_goals
  have EM := hide em
  first
   | (clear em; have em0 : Hid (s = 0) := EM; clear EM)
   | skip
  go_enter Tryz.func56, Tryz.ntmps56
  go_wp2_with fail
  go_loopw [6, 7] (fun iv kv wr => ∃ (j : Nat) (q : Int), j ≤ k ∧ kv = .int .i64 j ∧ iv = .int .i64 q ∧ 0 ≤ q ∧ q < N ∧ Hid (q = (((s + j) % N : Nat) : Int)) ∧ Hid (RpAt wr base v h l b r N us) ∧ Hid (Blk wr w.heap.size #[.bool false, .int .u64 0, .int .u64 0] 26) ∧ Hid (Below w.heap.size w wr)) (fun _ kv _ => k + 1 - (intOf kv).toNat)
  case atStart =>
   first
    | exact ⟨0, 0, by omega, rfl, rfl, by omega, by omega, (ST.out _ (by rw [em0.out]; rfl)).1, PH, RH, BH⟩
    | exact ⟨0, _, by omega, rfl, rfl, (ST.out _ em).2.1, (ST.out _ em).2.2, (ST.out _ em).1, PH, RH, BH⟩
    | (simp only [em]; exact ⟨0, _, by omega, rfl, rfl, (ST.out _ rfl).2.1, (ST.out _ rfl).2.2, (ST.out _ rfl).1, PH, RH, BH⟩)
  case round =>
   clear PH RH BH ST r0 r1 r2 r3 r4 r5
   try clear em
   obtain ⟨j, q, hj, rfl, rfl, q0, q1, hq, P, R, B⟩ := hrel
   obtain ⟨sv, hb, ho⟩ := P.out.is
   obtain ⟨r0, r1, r2, r3, r4, r5, rlt⟩ := hb.six
   have hqo := hq.out
   have i6 : (s + j) % N ≤ 65536 := by have := Nat.mod_lt (s + j) h0; omega
   have jN : (j : Int) < N := by omega
   clear hb ho
   by_cases hlt : j < k
   ·have HB := HBZ.out j hlt
    have NX : Hid (∀ q' : Int, (q + 1 = N → q' = 0) → (¬ q + 1 = N → q' = q + 1) → q' = (((s + (j + 1)) % N : Nat) : Int)) := fun q' h1 h2 => by
     rw [round_step h0]
     split
     ·rename_i c; rw [h1 (by omega)]; rfl
     ·rename_i c; rw [h2 (by omega)]; omega
    have QR : Hid (q + 1 = N ∨ ¬ q + 1 = N) := Classical.em _
    rcases busy_parts HB with e1 | ⟨e1, e2⟩
    ·have K1 := hide (KE.out q _ hqo i6 true e1 wr P.out)
     clear HB hqo e1
     go_wp2_with fail
     refine K1.out.mono ?_
     rintro e w1 ⟨rfl, hb1⟩
     have P1 := hide (P.out.below hb1)
     have R1 := hide (R.out.below hb1)
     have B1 := hide (B.out.trans (hb1.mono B.out.size))
     obtain ⟨sv1, hb1', _⟩ := P1.out.is
     obtain ⟨y0, y1, y2, y3, y4, y5, yl⟩ := hb1'.six
     clear K1 hb1 hb1' P R B r0 r1 r2 r3 r4 r5 y0 y1 y2 y3 y5
     rcases QR.out with hw | hw
     all_goals
      have NQ := hide (NX.out)
      clear NX QR
      go_wp2
      go_roundw
      case rel =>
       first
        | exact ⟨j + 1, 0, by omega, by go_num, rfl, by omega, by omega, NQ.out 0 (fun _ => rfl) (fun c => absurd hw c), P1, R1, B1⟩
        | exact ⟨j + 1, q + 1, by omega, by go_num, by go_num, by omega, by omega, NQ.out (q + 1) (fun c => absurd c hw) (fun _ => rfl), P1, R1, B1⟩
      case measure => simp [intOf]; omega
    ·have K1 := hide (KE.out q _ hqo i6 false e1 wr P.out)
     have H1 := hide (fun w' P' => HS.out q _ hqo true e2 w' P')
     clear HB hqo e1 e2
     go_wp2_with fail
     refine K1.out.mono ?_
     rintro e w1 ⟨rfl, hb1⟩
     have P1 := hide (P.out.below hb1)
     have R1 := hide (R.out.below hb1)
     have B1 := hide (B.out.trans (hb1.mono B.out.size))
     obtain ⟨sv1, hb1', _⟩ := P1.out.is
     obtain ⟨y0, y1, y2, y3, y4, y5, yl⟩ := hb1'.six
     clear K1 hb1 hb1' P R B r0 r1 r2 r3 r4 r5 y0 y1 y2 y3 y5
     go_wp2_with fail
     refine (H1.out w1 P1.out).mono ?_
     rintro e w2 ⟨rfl, rfl⟩
     clear H1
     rcases QR.out with hw | hw
     all_goals
      have NQ := hide (NX.out)
      clear NX QR
      go_wp2
      go_roundw
      case rel =>
       first
        | exact ⟨j + 1, 0, by omega, by go_num, rfl, by omega, by omega, NQ.out 0 (fun _ => rfl) (fun c => absurd hw c), P1, R1, B1⟩
        | exact ⟨j + 1, q + 1, by omega, by go_num, by go_num, by omega, by omega, NQ.out (q + 1) (fun c => absurd c hw) (fun _ => rfl), P1, R1, B1⟩
      case measure => simp [intOf]; omega
   ·obtain rfl : j = k := by omega
    rw [← HPK.out] at hqo i6
    obtain ⟨e1, e2⟩ := free_parts HFR.out
    have K1 := hide (KE.out q _ hqo i6 false e1 wr P.out)
    have H1 := hide (fun w' P' => HS.out q _ hqo false e2 w' P')
    have A1 := hide (fun w' P' => AD.out q hqo w' P')
    have HQ := hide hqo
    clear hqo e1 e2 KE HS AD HBZ HFR HPK hq i6
    go_wp2_with fail
    refine K1.out.mono ?_
    rintro e w1 ⟨rfl, hb1⟩
    have P1 := hide (P.out.below hb1)
    have R1 := hide (R.out.below hb1)
    have B1 := hide (B.out.trans (hb1.mono B.out.size))
    clear K1 hb1 P R B r0 r1 r2 r3 r4 r5
    go_wp2_with fail
    refine (H1.out w1 P1.out).mono ?_
    rintro e w2 ⟨rfl, rfl⟩
    obtain ⟨sv1, hb1, ho1⟩ := P1.out.is
    obtain ⟨y0, y1, y2, y3, y4, y5, yl⟩ := hb1.six
    have HB1 := hide hb1
    have HO1 := hide ho1
    have hbs : base ≤ w2.heap.size := Nat.le_trans hbase B1.out.size
    clear H1 hb1 ho1
    go_wp2_with (first | (at_builtin; refine wpList_append_own _ rfl _ _ 57 rfl base 3 i0 (.int .i64 0) 1 8 Tryz.underlying57 hi hz0 hz1 hz2 rfl (by decide) _ _ _ rfl (HO1.out.alloc _) ⟨w2.heap.size, 0, none⟩ 1 1 [.int .i64 q] rfl rfl ?c1 ?c2 ?c3 ?c4 ?c5 ?_))
    case c1 =>
     intro j u hj
     match j, hj with
     | 0, hj => simp at hj; subst hj; simp [Addr.add]
    case c2 => intro u hu; simp at hu; subst hu; rfl
    case c3 => unfold maxLen; omega
    case c4 => omega
    case c5 => simp; omega
    intro v' w5 hown hgrow _
    obtain ⟨g', cap', hv'⟩ : ∃ g' cap', v' = .slice (some ⟨g', 0, none⟩) (us.length + 1) cap' := by
     rcases hown.2 with ⟨_, h2⟩ | ⟨g', cap', cur, h1, _⟩
     ·omega
     ·exact ⟨g', cap', h1⟩
    subst hv'
    have hb5 := rp_grown HB1.out HO1.out (by decide) hgrow
    have R5 := rp_grown R1.out HO1.out (by decide) hgrow
    have B5 : Below base w w5 := below_grown (B1.out.mono hbase) hbs HO1.out hgrow
    rw [HQ.out] at hown
    have RP6 := hide (rp_store HB1.out HO1.out hown hgrow)
    have R6 := hide (R5.far hrne.out 5 (.slice (some ⟨g', 0, none⟩) (us.length + 1) cap'))
    have B6 := hide (B5.setCell (p := ⟨r, 5, none⟩) hrb (.slice (some ⟨g', 0, none⟩) (us.length + 1) cap'))
    have KP6 : Hid (∀ c cs t, Blk w c cs t → 3 ≠ t → c ≠ r → Blk (w5.setCell ⟨r, 5, none⟩ (.slice (some ⟨g', 0, none⟩) (us.length + 1) cap')) c cs t) := fun c cs t hc ht hcr => (rp_grown (hc.below B1.out) HO1.out ht hgrow).far hcr 5 _
    have f5 := hb5.frozen 5
    obtain ⟨z0, z1, z2, z3, z4, z5, zl⟩ := hb5.six
    have A6 := hide (A1.out _ RP6.out)
    clear hown hgrow hb5 R5 B5 A1 y0 y1 y2 y3 y4 y5 HB1 HO1 P1 R1 B1
    go_wp2_with fail
    refine A6.out.mono ?_
    rintro e w7 ⟨rfl, hb7⟩
    have R7 := R6.out.below hb7
    obtain ⟨x0, x1, x2, x3, x4, x5, xl⟩ := R7.three
    have P7 := hide (RP6.out.below hb7)
    have B7 := hide (B6.out.trans (hb7.mono (Nat.le_trans hbase B6.out.size)))
    have RR := hide R7
    have KP7 : Hid (∀ c cs t, Blk w c cs t → 3 ≠ t → c ≠ r → Blk w7 c cs t) := fun c cs t hc ht hcr => (KP6.out c cs t hc ht hcr).below hb7
    clear A6 hb7 R6 RP6 B6 R7 KP6 z0 z1 z2 z3 z4 z5 f5
    go_wp2
    have E : ∀ a1 a2 a3 : Value, RpAt (((w7.setCell ⟨w.heap.size, 0, none⟩ a1).setCell ⟨w.heap.size, 1, none⟩ a2).setCell ⟨w.heap.size, 2, none⟩ a3) base v h l b r N (us ++ [p]) ∧ Below base w (((w7.setCell ⟨w.heap.size, 0, none⟩ a1).setCell ⟨w.heap.size, 1, none⟩ a2).setCell ⟨w.heap.size, 2, none⟩ a3) ∧ (∀ c cs t, Blk w c cs t → 3 ≠ t → c ≠ r → Blk (((w7.setCell ⟨w.heap.size, 0, none⟩ a1).setCell ⟨w.heap.size, 1, none⟩ a2).setCell ⟨w.heap.size, 2, none⟩ a3) c cs t) := fun a1 a2 a3 =>
     ⟨rp_far (rp_far (rp_far P7.out RR.out hrne.out 0 a1) (RR.out.put 0 a1) hrne.out 1 a2) ((RR.out.put 0 a1).put 1 a2) hrne.out 2 a3, ((B7.out.setCell hbase a1).setCell hbase a2).setCell hbase a3, fun c cs t hc ht hcr => (((KP7.out c cs t hc ht hcr).far (by have := hc.lt; omega) 0 a1).far (by have := hc.lt; omega) 1 a2).far (by have := hc.lt; omega) 2 a3⟩
    refine bodyPost_ret (v := .tuple #[av v rh rl, .int .i64 0]) (by simp [results, Tryz.results56, go_sem, World.cell?_setCell_same', World.cell?_setCell_other, *]) rfl ⟨rfl, E _ _ _⟩
end Go.Proofs.YtgbpnekinbdadaaGreatDoor

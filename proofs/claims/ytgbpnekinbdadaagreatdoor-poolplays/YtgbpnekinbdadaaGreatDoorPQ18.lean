/-
  Texts Pfx4, Pfx5 of the proof.
-/
import Derived.Deep.DeepCutAuto
import Derived.Test.YtgbpnekinbdadaaGreatDoorPQ10
import Derived.Test.YtgbpnekinbdadaaGreatDoorPQ0

namespace Go.Proofs.YtgbpnekinbdadaaGreatDoor
open Go.ChangeShapes Go.WideShapes Go.ChangeAt Go.RowKit
set_option linter.unusedVariables false
set_option linter.unusedSimpArgs false

theorem Blk.put4 {W : World} {b : Nat} {x y z q : Value} {t : TypeId} (h : Blk W b #[x, y, z, q] t) (u v s r : Value) : Blk ((((W.setCell ⟨b, 0, none⟩ u).setCell ⟨b, 1, none⟩ v).setCell ⟨b, 2, none⟩ s).setCell ⟨b, 3, none⟩ r) b #[u, v, s, r] t := (((h.put 0 u).put 1 v).put 2 s).put 3 r

/-- With ones behind the first bits. -/
def lastN (v : Bool) (a : Nat) (b : Int) : Nat := a + (2 ^ behindP v b - 1)

theorem okP_parts {v : Bool} {a : Nat} {b : Int} (h : okP v a b = true) : fitsB v a b = true ∧ a % 2 ^ behindP v b = 0 := by
 simp only [okP, Bool.and_eq_true, decide_eq_true_eq] at h
 exact h

theorem or_lastN {v : Bool} {a : Nat} {b : Int} (h : a % 2 ^ behindP v b = 0) : a ||| (2 ^ behindP v b - 1) = lastN v a b := by
 unfold lastN
 obtain ⟨q, hq⟩ := Nat.dvd_of_mod_eq_zero h
 have p := pow_pos2 (behindP v b)
 rw [hq, or_add _ _ _ (by omega)]

set_option maxHeartbeats 800000 in
theorem first_c {v : Bool} {h l b : Int} {a : Nat} {u : Bool} {fh fl : Int} (ha : IsNum h l a) (hk : (okP v a b = true ∧ u = v ∧ fh = h ∧ fl = l) ∨ (okP v a b = false ∧ u = false ∧ fh = 0 ∧ fl = 0)) (w : World) :
  Calls Tryz.prog 68 #[pv v h l b] w fun e w' => e = .returned (av u fh fl) ∧ Below w.heap.size w w' := by
 have R := fun w' => pright_c (v := v) (b := b) ha w'
 clear ha
 rcases hk with ⟨hk, rfl, rfl, rfl⟩ | ⟨hk, rfl, rfl, rfl⟩
 all_goals
  rw [hk] at R
  clear hk
  go_enter Tryz.func68, Tryz.ntmps68
  go_wp2_with fail
  refine (R _).mono ?_
  rintro e w1 ⟨rfl, hb1⟩
  obtain ⟨hc1, hf1⟩ := bcell hb1
  have hz_w1_0 : w.heap.size < w1.heap.size   := (by have := hb1.size; first | omega | (simp at this; omega))
  have hz_w1_1 : w.heap.size + 1 < w1.heap.size   := (by have := hb1.size; first | omega | (simp at this; omega))
  clear R
  go_wp2
  refine bodyPost_ret (v := av _ _ _) (by simp [results, Tryz.results68, go_sem, World.cell?_setCell_same', World.cell?_setCell_other, *]) rfl ⟨rfl, by repeat (first | with_reducible exact Below.refl _ _ | with_reducible refine Below.drew ?_ | with_reducible refine Below.alloc ?_ (by first | omega | (simp <;> omega)) _ | with_reducible refine Below.setCell ?_ (by first | omega | (simp <;> omega)) _ | with_reducible refine Below.trans ?_ (Below.mono hb1 (by first | omega | (simp <;> omega))))⟩

set_option maxRecDepth 100000 in
set_option maxHeartbeats 800000 in
theorem last_ok {v : Bool} {h l b rh rl : Int} {a : Nat} (ha : IsNum h l a) (hk : okP v a b = true) (hr : IsNum rh rl (lastN v a b)) (w : World) :
  Calls Tryz.prog 69 #[pv v h l b] w fun e w' => e = .returned (av v rh rl) ∧ Below w.heap.size w w' := by
 obtain ⟨hf, hm⟩ := okP_parts hk
 obtain ⟨_, h0, h1⟩ := fitsB_parts hf
 obtain ⟨oh, ol, ho⟩ := IsNum.ex (ones_lt (behindP_le (v := v) h0))
 have R : Hid (∀ w', Calls Tryz.prog 36 #[pv v h l b] w' fun e w1 => e = .returned (.bool true) ∧ Below w'.heap.size w' w1) := fun w' => hk ▸ pright_c ha w'
 have C1 : Hid (∀ w', Calls Tryz.prog 80 #[pv v h l b] w' fun e w1 => e = .returned (nv oh ol) ∧ Below w'.heap.size w' w1) := fun w' => rest_is h0 h1 ho w'
 have C2 : Hid (∀ w', Calls Tryz.prog 110 #[nv h l, nv oh ol] w' fun e w1 => e = .returned (nv rh rl) ∧ Below w'.heap.size w' w1) := fun w' => or_is ha ho (hr.cast (or_lastN hm).symm) w'
 clear ha hk hr hf hm h0 h1 ho
 go_enter Tryz.func69, Tryz.ntmps69
 go_wp2_with fail
 refine (R.out _).mono ?_
 rintro e w1 ⟨rfl, hb1⟩
 have A1 : Blk w1 w.heap.size #[.bool v, .int .u64 h, .int .u64 l, .int .i64 b] 28 := ((Blk.new _ _ _).alloc _).below hb1
 have R1 : Blk w1 (w.heap.size + 1) #[.bool false, .int .u64 0, .int .u64 0] 26 := Blk.below (by simpa using Blk.new (w.alloc (.cells #[.bool v, .int .u64 h, .int .u64 l, .int .i64 b] 28)) #[.bool false, .int .u64 0, .int .u64 0] 26) hb1
 have B1 : Below w.heap.size w w1 := by repeat (first | with_reducible exact Below.refl _ _ | with_reducible refine Below.drew ?_ | with_reducible refine Below.alloc ?_ (by first | omega | (simp <;> omega)) _ | with_reducible refine Below.setCell ?_ (by first | omega | (simp <;> omega)) _ | with_reducible refine Below.trans ?_ (Below.mono hb1 (by first | omega | (simp <;> omega))))
 clear R hb1
 go_wp2_with fail
 have S0 : P4 w.heap.size v h l b w1 := P4.of A1
 refine wp_region_held_drew (S := (P4 w.heap.size v h l b)) (by kernel_rfl) ?hS100 (fun hHeld => ?rest100)
 case hS100 => with_reducible exact S0.drew
 refine w8 0 ?_ (ga7 rfl) (by kernel_rfl) (fun _ _ _ h => h) ⟨by rfl, ?y101⟩ hHeld ?_
 case y101 => (intro wq hSw; (try simp only [Two, P4] at hSw); go_simp; try with_reducible rfl)
 try simp only [Act.put, a7, b7, c7]
 refine w8 1 ?_ (ga7 rfl) (by kernel_rfl) (fun _ _ _ h => h) ⟨by rfl, ?y102⟩ hHeld ?_
 case y102 => (intro wq hSw; (try simp only [Two, P4] at hSw); go_simp; try with_reducible rfl)
 try simp only [Act.put, a7, b7, c7]
 refine w8 2 ?_ (ga7 rfl) (by kernel_rfl) (fun _ _ _ h => h) ⟨by rfl, ?y103⟩ hHeld ?_
 case y103 => (intro wq hSw; (try simp only [Two, P4] at hSw); go_simp; try with_reducible rfl)
 try simp only [Act.put, a7, b7, c7]
 refine w8 3 ?_ (ga7 rfl) (by kernel_rfl) (fun _ _ _ h => h) ⟨by rfl, ?y104⟩ hHeld ?_
 case y104 => (intro wq hSw; (try simp only [Two, P4] at hSw); go_simp; try with_reducible rfl)
 try simp only [Act.put, a7, b7, c7]
 refine w8 4 ?_ (ga7 rfl) (by kernel_rfl) (fun _ _ _ h => h) ⟨by rfl, ?y105⟩ hHeld ?_
 case y105 => (intro wq hSw; (try simp only [Two, P4] at hSw); go_simp; try with_reducible rfl)
 try simp only [Act.put, a7, b7, c7]
 refine w8 5 ?_ (ga7 rfl) (by kernel_rfl) (fun _ _ _ h => h) ⟨by rfl, ?y106⟩ hHeld ?_
 case y106 => (intro wq hSw; (try simp only [Two, P4] at hSw); go_simp; try with_reducible rfl)
 try simp only [Act.put, a7, b7, c7]
 refine w8 6 ?_ (ga7 rfl) (by kernel_rfl) (fun _ _ _ h => h) ⟨by rfl, ?y107⟩ hHeld ?_
 case y107 => (intro wq hSw; (try simp only [Two, P4] at hSw); go_simp; try with_reducible rfl)
 try simp only [Act.put, a7, b7, c7]
 refine wpAnyH_ready (rs := [7]) (by kernel_rfl) (by simp) ?rdy108
 refine AllReadyH.cons (ga7 rfl) (fun K hK => ?stp108) AllReadyH.nil
 go_simp
 go_wp2_with fail
 (refine (C1.out _).mono ?_; rintro e w3 ⟨rfl, hb3⟩; have B3 : Below w.heap.size w w3 := Below.via hb3 B1 (Nat.le_refl _) rfl rfl rfl rfl)
 go_wp2_with fail
 refine hK.out _ _ ?hSn108 (fun hHeld2 => ?rest108)
 case hSn108 => exact hHeld.below hb3
 clear hK K hHeld
 have hHeld := hHeld2
 clear hHeld2
 try simp only [Act.put, a7, b7, c7]
 refine wpAnyH_ready (rs := [8]) (by kernel_rfl) (by simp) ?rdy109
 refine AllReadyH.cons (ga7 rfl) (fun K hK => ?stp109) AllReadyH.nil
 go_simp
 go_wp2_with fail
 (refine (C2.out _).mono ?_; rintro e w4 ⟨rfl, hb4⟩; have B4 : Below w.heap.size w w4 := Below.via hb4 B3 (Nat.le_refl _) rfl rfl rfl rfl; obtain ⟨r0, r1, r2, r3, r4, r5, r6⟩ := ((R1.via hb3 rfl).below hb4).three)
 go_wp2_with fail
 refine hK.out _ _ ?hSn109 (fun hHeld2 => ?rest109)
 case hSn109 => (first | exact hHeld.below hb3 | exact hHeld.below hb4)
 clear hK K hHeld
 have hHeld := hHeld2
 clear hHeld2
 try simp only [Act.put, a7, b7, c7]
 refine w8 9 ?_ (ga7 rfl) (by kernel_rfl) (fun _ _ _ h => h) ⟨by rfl, ?y110⟩ hHeld ?_
 case y110 => (intro wq hSw; (try simp only [Two, P4] at hSw); go_simp; try with_reducible rfl)
 try simp only [Act.put, a7, b7, c7]
 refine wpAnyH_ready (rs := [10]) (by kernel_rfl) (by simp) ?rdy111
 refine AllReadyH.cons (ga7 rfl) (fun K hK => ?stp111) AllReadyH.nil
 go_simp
 go_wp2_with fail
 skip
 go_wp2_with fail
 refine hK.out _ _ ?hSn111 (fun hHeld2 => ?rest111)
 case hSn111 => (first | with_reducible exact S0.drew | exact hHeld.below hb3 | exact hHeld.below hb4 | exact hHeld.far3 (by omega) _ _ _)
 clear hK K hHeld
 have hHeld := hHeld2
 clear hHeld2
 try simp only [Act.put, a7, b7, c7]
 refine wpAnyH_done (by kernel_rfl) ?fin100 _
 go_wp2
 refine bodyPost_ret (v := av v rh rl) (by simp [results, Tryz.results69, go_sem, World.cell?_setCell_same', World.cell?_setCell_other, *]) rfl ⟨rfl, by repeat (first | with_reducible exact Below.refl _ _ | with_reducible refine Below.drew ?_ | with_reducible refine Below.alloc ?_ (by first | omega | (simp <;> omega)) _ | with_reducible refine Below.setCell ?_ (by first | omega | (simp <;> omega)) _ | with_reducible refine Below.trans ?_ (Below.mono B4 (by first | omega | (simp <;> omega))))⟩

theorem ofN_self {v : Bool} {a : Nat} {b : Int} (h : a % 2 ^ behindP v b = 0) : ofN v a b = a := by
 unfold ofN; exact Nat.div_mul_cancel (Nat.dvd_of_mod_eq_zero h)

theorem lastN_lt {v : Bool} {a : Nat} {b : Int} (h : a % 2 ^ behindP v b = 0) (h0 : 0 ≤ b) {N : Nat} (hN : ((N : Nat) : Int) = widthA v) (ha : a < 2 ^ N) : lastN v a b < 2 ^ N := by
 have hk : behindP v b ≤ N := by unfold behindP; omega
 unfold lastN
 generalize behindP v b = k at *
 obtain ⟨q, rfl⟩ := Nat.dvd_of_mod_eq_zero h
 have p := pow_pos2 k
 have e : 2 ^ N = 2 ^ k * 2 ^ (N - k) := by rw [← Nat.pow_add]; congr 1; omega
 rw [e] at ha ⊢
 have l : q < 2 ^ (N - k) := Nat.lt_of_mul_lt_mul_left ha
 have := Nat.mul_le_mul_left (2 ^ k) l
 rw [Nat.mul_succ] at this
 omega

theorem lastN_small {v : Bool} {a : Nat} {b : Int} (hk : okP v a b = true) (ha : a < 340282366920938463463374607431768211456) : lastN v a b < 340282366920938463463374607431768211456 ∧ okA v (lastN v a b) = true := by
 obtain ⟨hf, hm⟩ := okP_parts hk
 obtain ⟨ho, h0, h1⟩ := fitsB_parts hf
 cases v
 ·have := lastN_lt (N := 32) hm h0 rfl (by simpa [okA] using ho)
  exact ⟨by omega, by simpa [okA] using this⟩
 ·have := lastN_lt (N := 128) hm h0 rfl (by simpa using ha)
  exact ⟨by simpa using this, rfl⟩



/-- Two prefixes' blocks that are read. -/
def PP (B C : Nat) (v : Bool) (h l b : Int) (u : Bool) (i m c : Int) (wx : World) : Prop :=
 (wx.cell? ⟨B, 0, none⟩ = some (.bool v) ∧ wx.cell? ⟨B, 1, none⟩ = some (.int .u64 h) ∧ wx.cell? ⟨B, 2, none⟩ = some (.int .u64 l) ∧ wx.cell? ⟨B, 3, none⟩ = some (.int .i64 b) ∧ wx.cell? ⟨C, 0, none⟩ = some (.bool u) ∧ wx.cell? ⟨C, 1, none⟩ = some (.int .u64 i) ∧ wx.cell? ⟨C, 2, none⟩ = some (.int .u64 m) ∧ wx.cell? ⟨C, 3, none⟩ = some (.int .i64 c)) ∧ Blk wx B #[.bool v, .int .u64 h, .int .u64 l, .int .i64 b] 28 ∧ Blk wx C #[.bool u, .int .u64 i, .int .u64 m, .int .i64 c] 28

end Go.Proofs.YtgbpnekinbdadaaGreatDoor

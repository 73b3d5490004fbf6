/-
  Texts Pfx4 of the proof.
-/
import Derived.Deep.DeepCutAuto
import Derived.Test.YtipjmmhlfmahbaaGreatDoorP11

namespace Go.Proofs.YtipjmmhlfmahbaaGreatDoor
open Go.ChangeShapes Go.WideShapes Go.ChangeAt Go.RowKit
set_option linter.unusedVariables false
set_option linter.unusedSimpArgs false

theorem Blk.far4 {W : World} {b c : Nat} {cs : Array Value} {t : TypeId} (h : Blk W b cs t) (hne : b ≠ c) (u v s r : Value) : Blk ((((W.setCell ⟨c, 0, none⟩ u).setCell ⟨c, 1, none⟩ v).setCell ⟨c, 2, none⟩ s).setCell ⟨c, 3, none⟩ r) b cs t := (((h.far hne 0 u).far hne 1 v).far hne 2 s).far hne 3 r

theorem Blk.put4 {W : World} {b : Nat} {x y z q : Value} {t : TypeId} (h : Blk W b #[x, y, z, q] t) (u v s r : Value) : Blk ((((W.setCell ⟨b, 0, none⟩ u).setCell ⟨b, 1, none⟩ v).setCell ⟨b, 2, none⟩ s).setCell ⟨b, 3, none⟩ r) b #[u, v, s, r] t := (((h.put 0 u).put 1 v).put 2 s).put 3 r

/-- With ones behind the first bits. -/
def lastN (v : Bool) (a : Nat) (b : Int) : Nat := a + (2 ^ behindP v b - 1)

theorem okP_parts {v : Bool} {a : Nat} {b : Int} (h : okP v a b = true) : fitsB v a b = true ∧ a % 2 ^ behindP v b = 0 := by
  simp only [okP, Bool.and_eq_true, decide_eq_true_eq] at h
  exact h

theorem or_lastN {v : Bool} {a : Nat} {b : Int} (h : a % 2 ^ behindP v b = 0) : a ||| (2 ^ behindP v b - 1) = lastN v a b := by
  unfold lastN
  obtain ⟨q, hq⟩ := Nat.dvd_of_mod_eq_zero h
  have p := pow_pos2 (behindP v b)
  rw [hq, or_add _ _ _ (by omega)]

set_option maxHeartbeats 800000 in
theorem first_c {v : Bool} {h l b : Int} {a : Nat} {u : Bool} {fh fl : Int} (ha : IsNum h l a) (hk : (okP v a b = true ∧ u = v ∧ fh = h ∧ fl = l) ∨ (okP v a b = false ∧ u = false ∧ fh = 0 ∧ fl = 0)) (w : World) :
    Calls Tryz.prog 27 #[pv v h l b] w fun e w' => e = .returned (av u fh fl) ∧ Below w.heap.size w w' := by
  have R := fun w' => pright_c (v := v) (b := b) ha w'
  clear ha
  rcases hk with ⟨hk, rfl, rfl, rfl⟩ | ⟨hk, rfl, rfl, rfl⟩
  all_goals
    rw [hk] at R
    clear hk
    go_enter Tryz.func27, Tryz.ntmps27
    go_wp2_with fail
    refine (R _).mono ?_
    rintro e w1 ⟨rfl, hb1⟩
    obtain ⟨hc1, hf1⟩ := bcell hb1
    have hz_w1_0 : w.heap.size < w1.heap.size   := (by have := hb1.size; first | omega | (simp at this; omega))
    have hz_w1_1 : w.heap.size + 1 < w1.heap.size   := (by have := hb1.size; first | omega | (simp at this; omega))
    clear R
    go_wp2
    refine bodyPost_ret (v := av _ _ _) (by simp [results, Tryz.results27, go_sem, World.cell?_setCell_same', World.cell?_setCell_other, *]) rfl ⟨rfl, by repeat (first | with_reducible exact Below.refl _ _ | with_reducible refine Below.drew ?_ | with_reducible refine Below.alloc ?_ (by first | omega | (simp <;> omega)) _ | with_reducible refine Below.setCell ?_ (by first | omega | (simp <;> omega)) _ | with_reducible refine Below.trans ?_ (Below.mono hb1 (by first | omega | (simp <;> omega))))⟩

set_option maxHeartbeats 800000 in
theorem last_no {v : Bool} {h l b : Int} {a : Nat} (ha : IsNum h l a) (hk : okP v a b = false) (w : World) :
    Calls Tryz.prog 28 #[pv v h l b] w fun e w' => e = .returned (av false 0 0) ∧ Below w.heap.size w w' := by
  have R := fun w' => pright_c (v := v) (b := b) ha w'
  rw [hk] at R
  clear hk ha
  go_enter Tryz.func28, Tryz.ntmps28
  go_wp2_with fail
  refine (R _).mono ?_
  rintro e w1 ⟨rfl, hb1⟩
  obtain ⟨hc1, hf1⟩ := bcell hb1
  have hz_w1_0 : w.heap.size < w1.heap.size   := (by have := hb1.size; first | omega | (simp at this; omega))
  have hz_w1_1 : w.heap.size + 1 < w1.heap.size   := (by have := hb1.size; first | omega | (simp at this; omega))
  clear R
  go_wp2
  refine bodyPost_ret (v := av _ _ _) (by simp [results, Tryz.results28, go_sem, World.cell?_setCell_same', World.cell?_setCell_other, *]) rfl ⟨rfl, by repeat (first | with_reducible exact Below.refl _ _ | with_reducible refine Below.drew ?_ | with_reducible refine Below.alloc ?_ (by first | omega | (simp <;> omega)) _ | with_reducible refine Below.setCell ?_ (by first | omega | (simp <;> omega)) _ | with_reducible refine Below.trans ?_ (Below.mono hb1 (by first | omega | (simp <;> omega))))⟩

set_option maxRecDepth 100000 in
set_option maxHeartbeats 800000 in
theorem last_ok {v : Bool} {h l b rh rl : Int} {a : Nat} (ha : IsNum h l a) (hk : okP v a b = true) (hr : IsNum rh rl (lastN v a b)) (w : World) :
    Calls Tryz.prog 28 #[pv v h l b] w fun e w' => e = .returned (av v rh rl) ∧ Below w.heap.size w w' := by
  obtain ⟨hf, hm⟩ := okP_parts hk
  obtain ⟨_, h0, h1⟩ := fitsB_parts hf
  obtain ⟨oh, ol, ho⟩ := IsNum.ex (ones_lt (behindP_le (v := v) h0))
  have R : Hid (∀ w', Calls Tryz.prog 17 #[pv v h l b] w' fun e w1 => e = .returned (.bool true) ∧ Below w'.heap.size w' w1) := fun w' => hk ▸ pright_c ha w'
  have C1 : Hid (∀ w', Calls Tryz.prog 39 #[pv v h l b] w' fun e w1 => e = .returned (nv oh ol) ∧ Below w'.heap.size w' w1) := fun w' => rest_is h0 h1 ho w'
  have C2 : Hid (∀ w', Calls Tryz.prog 52 #[nv h l, nv oh ol] w' fun e w1 => e = .returned (nv rh rl) ∧ Below w'.heap.size w' w1) := fun w' => or_is ha ho (hr.cast (or_lastN hm).symm) w'
  clear ha hk hr hf hm h0 h1 ho
  go_enter Tryz.func28, Tryz.ntmps28
  go_wp2_with fail
  refine (R.out _).mono ?_
  rintro e w1 ⟨rfl, hb1⟩
  have A1 : Blk w1 w.heap.size #[.bool v, .int .u64 h, .int .u64 l, .int .i64 b] 28 := ((Blk.new _ _ _).alloc _).below hb1
  have R1 : Blk w1 (w.heap.size + 1) #[.bool false, .int .u64 0, .int .u64 0] 26 := Blk.below (by simpa using Blk.new (w.alloc (.cells #[.bool v, .int .u64 h, .int .u64 l, .int .i64 b] 28)) #[.bool false, .int .u64 0, .int .u64 0] 26) hb1
  have B1 : Below w.heap.size w w1 := by repeat (first | with_reducible exact Below.refl _ _ | with_reducible refine Below.drew ?_ | with_reducible refine Below.alloc ?_ (by first | omega | (simp <;> omega)) _ | with_reducible refine Below.setCell ?_ (by first | omega | (simp <;> omega)) _ | with_reducible refine Below.trans ?_ (Below.mono hb1 (by first | omega | (simp <;> omega))))
  clear R hb1
  go_wp2_with fail
  have S0 : P4 w.heap.size v h l b w1 := P4.of A1
  refine wp_region_held_drew (S := (P4 w.heap.size v h l b)) (by kernel_rfl) ?hS100 (fun hHeld => ?rest100)
  case hS100 => (first | with_reducible exact S0.drew | exact hHeld.below hb3 | exact hHeld.below hb4 | exact hHeld.far3 (by omega) _ _ _)
  refine wpAnyH_take (i := 0) (oi := _) (v := ?v101) (List.getElem?_toArray.trans rfl) (by kernel_rfl) (by kernel_rfl) (by kernel_rfl) (fun _ _ _ h => h) (Or.inl ⟨by rfl, ?hy101⟩) (by assumption) ?rest101
  case hy101 => (intro wq hSw; (try simp only [Two, P4] at hSw); go_simp; try with_reducible rfl)
  try simp only [Act.put, List.setIfInBounds_toArray, List.set_cons_zero, List.set_cons_succ]
  refine wpAnyH_take (i := 1) (oi := _) (v := ?v102) (List.getElem?_toArray.trans rfl) (by kernel_rfl) (by kernel_rfl) (by kernel_rfl) (fun _ _ _ h => h) (Or.inl ⟨by rfl, ?hy102⟩) (by assumption) ?rest102
  case hy102 => (intro wq hSw; (try simp only [Two, P4] at hSw); go_simp; try with_reducible rfl)
  try simp only [Act.put, List.setIfInBounds_toArray, List.set_cons_zero, List.set_cons_succ]
  refine wpAnyH_take (i := 2) (oi := _) (v := ?v103) (List.getElem?_toArray.trans rfl) (by kernel_rfl) (by kernel_rfl) (by kernel_rfl) (fun _ _ _ h => h) (Or.inl ⟨by rfl, ?hy103⟩) (by assumption) ?rest103
  case hy103 => (intro wq hSw; (try simp only [Two, P4] at hSw); go_simp; try with_reducible rfl)
  try simp only [Act.put, List.setIfInBounds_toArray, List.set_cons_zero, List.set_cons_succ]
  refine wpAnyH_take (i := 3) (oi := _) (v := ?v104) (List.getElem?_toArray.trans rfl) (by kernel_rfl) (by kernel_rfl) (by kernel_rfl) (fun _ _ _ h => h) (Or.inl ⟨by rfl, ?hy104⟩) (by assumption) ?rest104
  case hy104 => (intro wq hSw; (try simp only [Two, P4] at hSw); go_simp; try with_reducible rfl)
  try simp only [Act.put, List.setIfInBounds_toArray, List.set_cons_zero, List.set_cons_succ]
  refine wpAnyH_take (i := 4) (oi := _) (v := ?v105) (List.getElem?_toArray.trans rfl) (by kernel_rfl) (by kernel_rfl) (by kernel_rfl) (fun _ _ _ h => h) (Or.inl ⟨by rfl, ?hy105⟩) (by assumption) ?rest105
  case hy105 => (intro wq hSw; (try simp only [Two, P4] at hSw); go_simp; try with_reducible rfl)
  try simp only [Act.put, List.setIfInBounds_toArray, List.set_cons_zero, List.set_cons_succ]
  refine wpAnyH_take (i := 5) (oi := _) (v := ?v106) (List.getElem?_toArray.trans rfl) (by kernel_rfl) (by kernel_rfl) (by kernel_rfl) (fun _ _ _ h => h) (Or.inl ⟨by rfl, ?hy106⟩) (by assumption) ?rest106
  case hy106 => (intro wq hSw; (try simp only [Two, P4] at hSw); go_simp; try with_reducible rfl)
  try simp only [Act.put, List.setIfInBounds_toArray, List.set_cons_zero, List.set_cons_succ]
  refine wpAnyH_take (i := 6) (oi := _) (v := ?v107) (List.getElem?_toArray.trans rfl) (by kernel_rfl) (by kernel_rfl) (by kernel_rfl) (fun _ _ _ h => h) (Or.inl ⟨by rfl, ?hy107⟩) (by assumption) ?rest107
  case hy107 => (intro wq hSw; (try simp only [Two, P4] at hSw); go_simp; try with_reducible rfl)
  try simp only [Act.put, List.setIfInBounds_toArray, List.set_cons_zero, List.set_cons_succ]
  refine wpAnyH_ready (rs := [7]) (by kernel_rfl) (by simp) ?rdy108
  refine AllReadyH.cons (List.getElem?_toArray.trans rfl) (fun K hK => ?stp108) AllReadyH.nil
  go_simp
  go_wp2_with fail
  (refine (C1.out _).mono ?_; rintro e w3 ⟨rfl, hb3⟩; have B3 : Below w.heap.size w w3 := Below.via hb3 B1 (Nat.le_refl _) rfl rfl rfl rfl)
  go_wp2_with fail
  refine hK.out _ _ ?hSn108 (fun hHeld2 => ?rest108)
  case hSn108 => (first | with_reducible exact S0.drew | exact hHeld.below hb3 | exact hHeld.below hb4 | exact hHeld.far3 (by omega) _ _ _)
  clear hK K hHeld
  have hHeld := hHeld2
  clear hHeld2
  try simp only [Act.put, List.setIfInBounds_toArray, List.set_cons_zero, List.set_cons_succ]
  refine wpAnyH_ready (rs := [8]) (by kernel_rfl) (by simp) ?rdy109
  refine AllReadyH.cons (List.getElem?_toArray.trans rfl) (fun K hK => ?stp109) AllReadyH.nil
  go_simp
  go_wp2_with fail
  (refine (C2.out _).mono ?_; rintro e w4 ⟨rfl, hb4⟩; have B4 : Below w.heap.size w w4 := Below.via hb4 B3 (Nat.le_refl _) rfl rfl rfl rfl; obtain ⟨r0, r1, r2, r3, r4, r5, r6⟩ := ((R1.via hb3 rfl).below hb4).three)
  go_wp2_with fail
  refine hK.out _ _ ?hSn109 (fun hHeld2 => ?rest109)
  case hSn109 => (first | with_reducible exact S0.drew | exact hHeld.below hb3 | exact hHeld.below hb4 | exact hHeld.far3 (by omega) _ _ _)
  clear hK K hHeld
  have hHeld := hHeld2
  clear hHeld2
  try simp only [Act.put, List.setIfInBounds_toArray, List.set_cons_zero, List.set_cons_succ]
  refine wpAnyH_take (i := 9) (oi := _) (v := ?v110) (List.getElem?_toArray.trans rfl) (by kernel_rfl) (by kernel_rfl) (by kernel_rfl) (fun _ _ _ h => h) (Or.inl ⟨by rfl, ?hy110⟩) (by assumption) ?rest110
  case hy110 => (intro wq hSw; (try simp only [Two, P4] at hSw); go_simp; try with_reducible rfl)
  try simp only [Act.put, List.setIfInBounds_toArray, List.set_cons_zero, List.set_cons_succ]
  refine wpAnyH_ready (rs := [10]) (by kernel_rfl) (by simp) ?rdy111
  refine AllReadyH.cons (List.getElem?_toArray.trans rfl) (fun K hK => ?stp111) AllReadyH.nil
  go_simp
  go_wp2_with fail
  skip
  go_wp2_with fail
  refine hK.out _ _ ?hSn111 (fun hHeld2 => ?rest111)
  case hSn111 => (first | with_reducible exact S0.drew | exact hHeld.below hb3 | exact hHeld.below hb4 | exact hHeld.far3 (by omega) _ _ _)
  clear hK K hHeld
  have hHeld := hHeld2
  clear hHeld2
  try simp only [Act.put, List.setIfInBounds_toArray, List.set_cons_zero, List.set_cons_succ]
  refine wpAnyH_done (by kernel_rfl) ?fin100 _
  go_wp2
  refine bodyPost_ret (v := av v rh rl) (by simp [results, Tryz.results28, go_sem, World.cell?_setCell_same', World.cell?_setCell_other, *]) rfl ⟨rfl, by repeat (first | with_reducible exact Below.refl _ _ | with_reducible refine Below.drew ?_ | with_reducible refine Below.alloc ?_ (by first | omega | (simp <;> omega)) _ | with_reducible refine Below.setCell ?_ (by first | omega | (simp <;> omega)) _ | with_reducible refine Below.trans ?_ (Below.mono B4 (by first | omega | (simp <;> omega))))⟩

/-- What Halves keeps. -/
def H3 (w : World) (v : Bool) (h l b : Int) (wr : World) : Prop :=
  Blk wr w.heap.size #[.bool v, .int .u64 h, .int .u64 l, .int .i64 b] 28 ∧ Blk wr (w.heap.size + 1) #[.bool false, .int .u64 0, .int .u64 0, .int .i64 0] 28 ∧ Blk wr (w.heap.size + 2) #[.bool false, .int .u64 0, .int .u64 0, .int .i64 0] 28 ∧ Below w.heap.size w wr

theorem H3.below {w W w1 : World} {v : Bool} {h l b : Int} (s : H3 w v h l b W) (hb : Below W.heap.size W w1) : H3 w v h l b w1 := ⟨s.1.below hb, s.2.1.below hb, s.2.2.1.below hb, s.2.2.2.trans (hb.mono s.2.2.2.size)⟩

theorem H3.via {w W W0 w1 : World} {v : Bool} {h l b : Int} (s : H3 w v h l b W0) (hb : Below W.heap.size W w1) (e : W.heap = W0.heap) (e1 : W.os = W0.os) (e2 : W.tape = W0.tape) (e3 : W.output = W0.output) : H3 w v h l b w1 := ⟨s.1.via hb e, s.2.1.via hb e, s.2.2.1.via hb e, Below.via hb s.2.2.2 (Nat.le_refl _) e e1 e2 e3⟩

theorem H3.alloc {w W : World} {v : Bool} {h l b : Int} (s : H3 w v h l b W) (o : Obj) : H3 w v h l b (W.alloc o) := ⟨s.1.alloc o, s.2.1.alloc o, s.2.2.1.alloc o, s.2.2.2.alloc (Nat.le_of_lt s.1.lt) o⟩

theorem H3.far4 {w W : World} {v : Bool} {h l b : Int} {c : Nat} (s : H3 w v h l b W) (hc : w.heap.size + 2 < c) (x y z q : Value) : H3 w v h l b ((((W.setCell ⟨c, 0, none⟩ x).setCell ⟨c, 1, none⟩ y).setCell ⟨c, 2, none⟩ z).setCell ⟨c, 3, none⟩ q) := ⟨s.1.far4 (by omega) _ _ _ _, s.2.1.far4 (by omega) _ _ _ _, s.2.2.1.far4 (by omega) _ _ _ _, (((s.2.2.2.setCell (by simp; omega) _).setCell (by simp; omega) _).setCell (by simp; omega) _).setCell (by simp; omega) _⟩

theorem H3.p4 {w W : World} {v : Bool} {h l b : Int} (s : H3 w v h l b W) : P4 w.heap.size v h l b W := P4.of s.1

theorem H3.p4a {w W : World} {v : Bool} {h l b : Int} (s : H3 w v h l b W) (o : Obj) : P4 w.heap.size v h l b (W.alloc o) := P4.of (s.1.alloc o)

theorem H3.p4f {w W : World} {v : Bool} {h l b : Int} {c : Nat} (s : H3 w v h l b W) (hc : w.heap.size + 2 < c) (x y z q : Value) : P4 w.heap.size v h l b ((((W.setCell ⟨c, 0, none⟩ x).setCell ⟨c, 1, none⟩ y).setCell ⟨c, 2, none⟩ z).setCell ⟨c, 3, none⟩ q) := (s.far4 hc x y z q).p4

theorem H3.start (w : World) (v : Bool) (h l b : Int) : H3 w v h l b (((w.alloc (.cells #[.bool v, .int .u64 h, .int .u64 l, .int .i64 b] 28)).alloc (.cells #[.bool false, .int .u64 0, .int .u64 0, .int .i64 0] 28)).alloc (.cells #[.bool false, .int .u64 0, .int .u64 0, .int .i64 0] 28)) :=
  ⟨((Blk.new _ _ _).alloc _).alloc _, Blk.alloc (by simpa using Blk.new (w.alloc (.cells #[.bool v, .int .u64 h, .int .u64 l, .int .i64 b] 28)) #[.bool false, .int .u64 0, .int .u64 0, .int .i64 0] 28) _, by simpa using Blk.new ((w.alloc (.cells #[.bool v, .int .u64 h, .int .u64 l, .int .i64 b] 28)).alloc (.cells #[.bool false, .int .u64 0, .int .u64 0, .int .i64 0] 28)) #[.bool false, .int .u64 0, .int .u64 0, .int .i64 0] 28, by repeat (first | with_reducible exact Below.refl _ _ | with_reducible refine Below.drew ?_ | with_reducible refine Below.alloc ?_ (by first | omega | (simp <;> omega)) _ | with_reducible refine Below.setCell ?_ (by first | omega | (simp <;> omega)) _)⟩

theorem behindP_up {v : Bool} {b : Int} (hb : b < widthA v) : behindP v b = behindP v (b + 1) + 1 := by unfold behindP; omega

theorem ofN_self {v : Bool} {a : Nat} {b : Int} (h : a % 2 ^ behindP v b = 0) : ofN v a b = a := by
  unfold ofN; exact Nat.div_mul_cancel (Nat.dvd_of_mod_eq_zero h)

theorem ofN_low {v : Bool} {a : Nat} {b : Int} (hb : b < widthA v) (h : a % 2 ^ behindP v b = 0) : a % 2 ^ behindP v (b + 1) = 0 := by
  rw [behindP_up hb, Nat.pow_succ] at h
  exact Nat.mod_eq_zero_of_dvd (Nat.dvd_trans (Nat.dvd_mul_right _ _) (Nat.dvd_of_mod_eq_zero h))

theorem ofN_high {v : Bool} {a : Nat} {b : Int} (hb : b < widthA v) (h : a % 2 ^ behindP v b = 0) : ofN v (lastN v a b) (b + 1) = a + 2 ^ (behindP v b - 1) := by
  unfold ofN lastN
  rw [behindP_up hb] at *
  rw [Nat.add_sub_cancel]
  rw [Nat.pow_succ] at *
  have p := pow_pos2 (behindP v (b + 1))
  generalize 2 ^ behindP v (b + 1) = m at *
  obtain ⟨q, hq⟩ := Nat.dvd_of_mod_eq_zero h
  have e : a + (m * 2 - 1) = (m - 1) + m * (2 * q + 1) := by
    rw [hq, Nat.mul_add, Nat.mul_one, Nat.mul_assoc]
    omega
  rw [e, Nat.add_mul_div_left _ _ p, Nat.div_eq_of_lt (by omega), Nat.zero_add, hq, Nat.mul_comm, Nat.mul_add, Nat.mul_one, Nat.mul_assoc]

theorem lastN_lt {v : Bool} {a : Nat} {b : Int} (h : a % 2 ^ behindP v b = 0) (h0 : 0 ≤ b) {N : Nat} (hN : ((N : Nat) : Int) = widthA v) (ha : a < 2 ^ N) : lastN v a b < 2 ^ N := by
  have hk : behindP v b ≤ N := by unfold behindP; omega
  unfold lastN
  generalize behindP v b = k at *
  obtain ⟨q, rfl⟩ := Nat.dvd_of_mod_eq_zero h
  have p := pow_pos2 k
  have e : 2 ^ N = 2 ^ k * 2 ^ (N - k) := by rw [← Nat.pow_add]; congr 1; omega
  rw [e] at ha ⊢
  have l : q < 2 ^ (N - k) := Nat.lt_of_mul_lt_mul_left ha
  have := Nat.mul_le_mul_left (2 ^ k) l
  rw [Nat.mul_succ] at this
  omega

theorem lastN_small {v : Bool} {a : Nat} {b : Int} (hk : okP v a b = true) (ha : a < 340282366920938463463374607431768211456) : lastN v a b < 340282366920938463463374607431768211456 ∧ okA v (lastN v a b) = true := by
  obtain ⟨hf, hm⟩ := okP_parts hk
  obtain ⟨ho, h0, h1⟩ := fitsB_parts hf
  cases v
  · have := lastN_lt (N := 32) hm h0 rfl (by simpa [okA] using ho)
    exact ⟨by omega, by simpa [okA] using this⟩
  · have := lastN_lt (N := 128) hm h0 rfl (by simpa using ha)
    exact ⟨by simpa using this, rfl⟩

theorem fits_up {v : Bool} {a : Nat} {b : Int} (ho : okA v a = true) (h0 : 0 ≤ b) (hW : b < widthA v) : fitsB v a (b + 1) = true := by
  simp only [fitsB, ho, Bool.true_and, Bool.and_eq_true, decide_eq_true_eq]
  omega

end Go.Proofs.YtipjmmhlfmahbaaGreatDoor

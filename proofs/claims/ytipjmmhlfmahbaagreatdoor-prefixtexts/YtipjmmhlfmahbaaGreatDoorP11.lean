/-
  Texts Pfx1, Pfx2, Pfx3 of the proof.
-/
import Derived.Deep.RegionHeld
import Derived.Test.YtipjmmhlfmahbaaGreatDoorP9
import Derived.Test.YtipjmmhlfmahbaaGreatDoorP1

namespace Go.Proofs.YtipjmmhlfmahbaaGreatDoor
open Go.ChangeShapes Go.WideShapes Go.ChangeAt Go.RowKit
set_option linter.unusedVariables false
set_option linter.unusedSimpArgs false

/-- A prefix as a value: whether it is a long one, the two words of its number, its bits. -/
abbrev pv (v : Bool) (hi lo b : Int) : Value := .agg #[.bool v, .int .u64 hi, .int .u64 lo, .int .i64 b]

/-- How many bits stand behind the first b. -/
def behindP (v : Bool) (b : Int) : Nat := (widthA v - b).toNat

/-- Is there a prefix of b bits that has it? -/
def fitsB (v : Bool) (a : Nat) (b : Int) : Bool := okA v a && decide (0 ≤ b) && decide (b ≤ widthA v)

/-- With noughts behind the first bits. -/
def ofN (v : Bool) (a : Nat) (b : Int) : Nat := a / 2 ^ behindP v b * 2 ^ behindP v b

/-- May it be? -/
def okP (v : Bool) (a : Nat) (b : Int) : Bool := fitsB v a b && decide (a % 2 ^ behindP v b = 0)

/-- A prefix's block that is read. -/
def P4 (B : Nat) (v : Bool) (h l b : Int) (wx : World) : Prop :=
  (wx.cell? ⟨B, 0, none⟩ = some (.bool v) ∧ wx.cell? ⟨B, 1, none⟩ = some (.int .u64 h) ∧ wx.cell? ⟨B, 2, none⟩ = some (.int .u64 l) ∧ wx.cell? ⟨B, 3, none⟩ = some (.int .i64 b)) ∧ Blk wx B #[.bool v, .int .u64 h, .int .u64 l, .int .i64 b] 28

theorem P4.of {B : Nat} {v : Bool} {h l b : Int} {wx : World} (a : Blk wx B #[.bool v, .int .u64 h, .int .u64 l, .int .i64 b] 28) : P4 B v h l b wx := ⟨⟨a.cell 0, a.cell 1, a.cell 2, a.cell 3⟩, a⟩

theorem P4.drew {B : Nat} {v : Bool} {h l b : Int} {wx : World} (s : P4 B v h l b wx) : P4 B v h l b wx.drew := s

theorem P4.below {B : Nat} {v : Bool} {h l b : Int} {wx w1 : World} (s : P4 B v h l b wx) (hb : Below wx.heap.size wx w1) : P4 B v h l b w1 := P4.of (s.2.below hb)

theorem P4.far2 {B C : Nat} {v : Bool} {h l b : Int} {wx : World} (s : P4 B v h l b wx) (hne : B ≠ C) (x y : Value) : P4 B v h l b ((wx.setCell ⟨C, 0, none⟩ x).setCell ⟨C, 1, none⟩ y) := P4.of (s.2.far2 hne _ _)

theorem P4.far3 {B C : Nat} {v : Bool} {h l b : Int} {wx : World} (s : P4 B v h l b wx) (hne : B ≠ C) (x y z : Value) : P4 B v h l b (((wx.setCell ⟨C, 0, none⟩ x).setCell ⟨C, 1, none⟩ y).setCell ⟨C, 2, none⟩ z) := P4.of (s.2.far3 hne _ _ _)

theorem Blk.four {W : World} {b : Nat} {x y z u : Value} {t : TypeId} (h : Blk W b #[x, y, z, u] t) : W.cell? ⟨b, 0, none⟩ = some x ∧ W.cell? ⟨b, 1, none⟩ = some y ∧ W.cell? ⟨b, 2, none⟩ = some z ∧ W.cell? ⟨b, 3, none⟩ = some u ∧ W.frozen? ⟨b, 0, none⟩ = false ∧ W.frozen? ⟨b, 1, none⟩ = false ∧ W.frozen? ⟨b, 2, none⟩ = false ∧ W.frozen? ⟨b, 3, none⟩ = false ∧ b < W.heap.size :=
  ⟨h.cell 0, h.cell 1, h.cell 2, h.cell 3, h.frozen 0, h.frozen 1, h.frozen 2, h.frozen 3, h.lt⟩

theorem width_le (v : Bool) : widthA v = 32 ∨ widthA v = 128 := by cases v <;> simp [widthA]

set_option maxHeartbeats 800000 in
theorem fits_c {v : Bool} {h l b : Int} {a : Nat} (ha : IsNum h l a) (w : World) :
    Calls Tryz.prog 37 #[av v h l, .int .i64 b] w fun e w' => e = .returned (.bool (fitsB v a b)) ∧ Below w.heap.size w w' := by
  obtain ⟨W, hW⟩ : ∃ W, widthA v = W := ⟨_, rfl⟩
  have R := fun w' => aright_c (v := v) ha w'
  have D := fun w' => width_lit v W hW h l w'
  have hf : fitsB v a b = (okA v a && decide (0 ≤ b) && decide (b ≤ W)) := by rw [← hW]; rfl
  obtain ⟨ok, hok⟩ : ∃ ok, okA v a = ok := ⟨_, rfl⟩
  rw [hok] at R hf
  clear ha hok hW
  cases ok
  · have f : Hid (fitsB v a b = false) := by show _ = _; rw [hf]; rfl
    clear hf D
    go_enter Tryz.func37, Tryz.ntmps37
    go_wp2_with fail
    refine (R _).mono ?_
    rintro e w1 ⟨rfl, hb1⟩
    obtain ⟨hc1, hf1⟩ := bcell hb1
    have hz_w1_0 : w.heap.size < w1.heap.size   := (by have := hb1.size; first | omega | (simp at this; omega))
    clear R
    go_wp2
    go_ret
    exact ⟨by rw [f.out]; rfl, by repeat (first | with_reducible exact Below.refl _ _ | with_reducible refine Below.drew ?_ | with_reducible refine Below.alloc ?_ (by first | omega | (simp <;> omega)) _ | with_reducible refine Below.setCell ?_ (by first | omega | (simp <;> omega)) _ | with_reducible refine Below.trans ?_ (Below.mono hb1 (by first | omega | (simp <;> omega))))⟩
  · by_cases h0 : 0 ≤ b
    · by_cases h1 : b ≤ W
      · have f : Hid (fitsB v a b = true) := by show _ = _; rw [hf, decide_eq_true h0, decide_eq_true h1]; rfl
        clear hf
        go_enter Tryz.func37, Tryz.ntmps37
        go_wp2_with fail
        refine (R _).mono ?_
        rintro e w1 ⟨rfl, hb1⟩
        obtain ⟨hc1, hf1⟩ := bcell hb1
        have hz_w1_0 : w.heap.size < w1.heap.size   := (by have := hb1.size; first | omega | (simp at this; omega))
        clear R
        go_wp2_with fail
        refine (D _).mono ?_
        rintro e w2 ⟨rfl, hb2⟩
        clear D
        go_wp2
        go_ret
        exact ⟨by rw [f.out]; rfl, by repeat (first | with_reducible exact Below.refl _ _ | with_reducible refine Below.drew ?_ | with_reducible refine Below.alloc ?_ (by first | omega | (simp <;> omega)) _ | with_reducible refine Below.setCell ?_ (by first | omega | (simp <;> omega)) _ | with_reducible refine Below.trans ?_ (Below.mono hb2 (by first | omega | (simp <;> omega))) | with_reducible refine Below.trans ?_ (Below.mono hb1 (by first | omega | (simp <;> omega))))⟩
      · have f : Hid (fitsB v a b = false) := by show _ = _; rw [hf, decide_eq_false h1]; simp
        have h1' : decide (b ≤ W) = false := decide_eq_false h1
        clear hf h1
        go_enter Tryz.func37, Tryz.ntmps37
        go_wp2_with fail
        refine (R _).mono ?_
        rintro e w1 ⟨rfl, hb1⟩
        obtain ⟨hc1, hf1⟩ := bcell hb1
        have hz_w1_0 : w.heap.size < w1.heap.size   := (by have := hb1.size; first | omega | (simp at this; omega))
        clear R
        go_wp2_with fail
        refine (D _).mono ?_
        rintro e w2 ⟨rfl, hb2⟩
        clear D
        go_wp2
        go_ret
        exact ⟨by rw [f.out]; rfl, by repeat (first | with_reducible exact Below.refl _ _ | with_reducible refine Below.drew ?_ | with_reducible refine Below.alloc ?_ (by first | omega | (simp <;> omega)) _ | with_reducible refine Below.setCell ?_ (by first | omega | (simp <;> omega)) _ | with_reducible refine Below.trans ?_ (Below.mono hb2 (by first | omega | (simp <;> omega))) | with_reducible refine Below.trans ?_ (Below.mono hb1 (by first | omega | (simp <;> omega))))⟩
    · have f : Hid (fitsB v a b = false) := by show _ = _; rw [hf, decide_eq_false h0]; rfl
      have h0' : decide (0 ≤ b) = false := decide_eq_false h0
      clear hf h0 D
      go_enter Tryz.func37, Tryz.ntmps37
      go_wp2_with fail
      refine (R _).mono ?_
      rintro e w1 ⟨rfl, hb1⟩
      obtain ⟨hc1, hf1⟩ := bcell hb1
      have hz_w1_0 : w.heap.size < w1.heap.size   := (by have := hb1.size; first | omega | (simp at this; omega))
      clear R
      go_wp2
      go_ret
      exact ⟨by rw [f.out]; rfl, by repeat (first | with_reducible exact Below.refl _ _ | with_reducible refine Below.drew ?_ | with_reducible refine Below.alloc ?_ (by first | omega | (simp <;> omega)) _ | with_reducible refine Below.setCell ?_ (by first | omega | (simp <;> omega)) _ | with_reducible refine Below.trans ?_ (Below.mono hb1 (by first | omega | (simp <;> omega))))⟩

set_option maxHeartbeats 800000 in
theorem rest_is {v : Bool} {h l b rh rl : Int} (h0 : 0 ≤ b) (h1 : b ≤ widthA v) (hr : IsNum rh rl (2 ^ behindP v b - 1)) (w : World) :
    Calls Tryz.prog 39 #[pv v h l b] w fun e w' => e = .returned (nv rh rl) ∧ Below w.heap.size w w' := by
  have hW2 := width_le v
  obtain ⟨W, hW⟩ : ∃ W, widthA v = W := ⟨_, rfl⟩
  have C1 : Hid (∀ w', Calls Tryz.prog 16 #[av v h l] w' fun e w1 => e = .returned (.int .i64 W) ∧ Below w'.heap.size w' w1) := fun w' => width_lit v W hW h l w'
  have hm : min (W - b).toNat 128 = behindP v b := by unfold behindP; omega
  have C2 : Hid (∀ w', Calls Tryz.prog 62 #[.int .i64 (W - b)] w' fun e w1 => e = .returned (nv rh rl) ∧ Below w'.heap.size w' w1) := fun w' => ones_is (by rw [hm]; exact hr) w'
  rw [hW] at h1 hW2
  have hw1 : IntKind.i64.wrap (W - b) = W - b := by simp [IntKind.wrap, IntKind.bits, IntKind.signed]; omega
  clear hW hm hr hW2
  go_enter Tryz.func39, Tryz.ntmps39
  go_wp2_with fail
  have S0 : P4 w.heap.size v h l b ((w.alloc (.cells #[.bool v, .int .u64 h, .int .u64 l, .int .i64 b] 28)).alloc (.cells #[.int .u64 0, .int .u64 0] 24)) := P4.of ((Blk.new _ _ _).alloc _)
  have R0 : Blk ((w.alloc (.cells #[.bool v, .int .u64 h, .int .u64 l, .int .i64 b] 28)).alloc (.cells #[.int .u64 0, .int .u64 0] 24)) (w.heap.size + 1) #[.int .u64 0, .int .u64 0] 24 := by
    simpa using Blk.new (w.alloc (.cells #[.bool v, .int .u64 h, .int .u64 l, .int .i64 b] 28)) #[.int .u64 0, .int .u64 0] 24
  refine wp_region_held_drew (S := (P4 w.heap.size v h l b)) (by kernel_rfl) ?hS100 (fun hHeld => ?rest100)
  case hS100 => (first | with_reducible exact S0.drew | exact hHeld.below hb3 | exact hHeld.below hb4 | exact hHeld.far2 (by omega) _ _)
  refine wpAnyH_take (i := 0) (oi := _) (v := ?v101) (List.getElem?_toArray.trans rfl) (by kernel_rfl) (by kernel_rfl) (by kernel_rfl) (fun _ _ _ h => h) (Or.inl ⟨by rfl, ?hy101⟩) (by assumption) ?rest101
  case hy101 => (intro wq hSw; (try simp only [Two, P4] at hSw); go_simp; try with_reducible rfl)
  try simp only [Act.put, List.setIfInBounds_toArray, List.set_cons_zero, List.set_cons_succ]
  refine wpAnyH_take (i := 1) (oi := _) (v := ?v102) (List.getElem?_toArray.trans rfl) (by kernel_rfl) (by kernel_rfl) (by kernel_rfl) (fun _ _ _ h => h) (Or.inl ⟨by rfl, ?hy102⟩) (by assumption) ?rest102
  case hy102 => (intro wq hSw; (try simp only [Two, P4] at hSw); go_simp; try with_reducible rfl)
  try simp only [Act.put, List.setIfInBounds_toArray, List.set_cons_zero, List.set_cons_succ]
  refine wpAnyH_take (i := 3) (oi := _) (v := ?v103) (List.getElem?_toArray.trans rfl) (by kernel_rfl) (by kernel_rfl) (by kernel_rfl) (fun _ _ _ h => h) (Or.inl ⟨by rfl, ?hy103⟩) (by assumption) ?rest103
  case hy103 => (intro wq hSw; (try simp only [Two, P4] at hSw); go_simp; try with_reducible rfl)
  try simp only [Act.put, List.setIfInBounds_toArray, List.set_cons_zero, List.set_cons_succ]
  refine wpAnyH_take (i := 4) (oi := _) (v := ?v104) (List.getElem?_toArray.trans rfl) (by kernel_rfl) (by kernel_rfl) (by kernel_rfl) (fun _ _ _ h => h) (Or.inl ⟨by rfl, ?hy104⟩) (by assumption) ?rest104
  case hy104 => (intro wq hSw; (try simp only [Two, P4] at hSw); go_simp; try with_reducible rfl)
  try simp only [Act.put, List.setIfInBounds_toArray, List.set_cons_zero, List.set_cons_succ]
  refine wpAnyH_ready (rs := [2]) (by kernel_rfl) (by simp) ?rdy105
  refine AllReadyH.cons (List.getElem?_toArray.trans rfl) (fun K hK => ?stp105) AllReadyH.nil
  go_simp
  go_wp2_with fail
  (refine (C1.out _).mono ?_; rintro e w3 ⟨rfl, hb3⟩; obtain ⟨hc3, hf3⟩ := bcell hb3; have hz_w3_0 : w.heap.size < w3.heap.size   := (by have := hb3.size; first | omega | (simp at this; omega)); have hz_w3_1 : w.heap.size + 1 < w3.heap.size   := (by have := hb3.size; first | omega | (simp at this; omega)))
  go_wp2_with fail
  refine hK.out _ _ ?hSn105 (fun hHeld2 => ?rest105)
  case hSn105 => (first | with_reducible exact S0.drew | exact hHeld.below hb3 | exact hHeld.below hb4 | exact hHeld.far2 (by omega) _ _)
  clear hK K hHeld
  have hHeld := hHeld2
  clear hHeld2
  try simp only [Act.put, List.setIfInBounds_toArray, List.set_cons_zero, List.set_cons_succ]
  refine wpAnyH_take (i := 5) (oi := _) (v := ?v106) (List.getElem?_toArray.trans rfl) (by kernel_rfl) (by kernel_rfl) (by kernel_rfl) (fun _ _ _ h => h) (Or.inl ⟨by rfl, ?hy106⟩) (by assumption) ?rest106
  case hy106 => (intro wq hSw; (try simp only [Two, P4] at hSw); go_simp; try with_reducible rfl)
  try simp only [Act.put, List.setIfInBounds_toArray, List.set_cons_zero, List.set_cons_succ]
  refine wpAnyH_ready (rs := [6]) (by kernel_rfl) (by simp) ?rdy107
  refine AllReadyH.cons (List.getElem?_toArray.trans rfl) (fun K hK => ?stp107) AllReadyH.nil
  go_simp
  go_wp2_with fail
  (refine (C2.out _).mono ?_; rintro e w4 ⟨rfl, hb4⟩; obtain ⟨hc4, hf4⟩ := bcell hb4; have hz_w4_0 : w.heap.size < w4.heap.size   := (by have := hb4.size; first | omega | (simp at this; omega)); have hz_w4_1 : w.heap.size + 1 < w4.heap.size   := (by have := hb4.size; first | omega | (simp at this; omega)))
  go_wp2_with fail
  refine hK.out _ _ ?hSn107 (fun hHeld2 => ?rest107)
  case hSn107 => (first | with_reducible exact S0.drew | exact hHeld.below hb3 | exact hHeld.below hb4 | exact hHeld.far2 (by omega) _ _)
  clear hK K hHeld
  have hHeld := hHeld2
  clear hHeld2
  try simp only [Act.put, List.setIfInBounds_toArray, List.set_cons_zero, List.set_cons_succ]
  refine wpAnyH_ready (rs := [7]) (by kernel_rfl) (by simp) ?rdy108
  refine AllReadyH.cons (List.getElem?_toArray.trans rfl) (fun K hK => ?stp108) AllReadyH.nil
  go_simp
  go_wp2_with fail
  skip
  go_wp2_with fail
  refine hK.out _ _ ?hSn108 (fun hHeld2 => ?rest108)
  case hSn108 => (first | with_reducible exact S0.drew | exact hHeld.below hb3 | exact hHeld.below hb4 | exact hHeld.far2 (by omega) _ _)
  clear hK K hHeld
  have hHeld := hHeld2
  clear hHeld2
  try simp only [Act.put, List.setIfInBounds_toArray, List.set_cons_zero, List.set_cons_succ]
  refine wpAnyH_done (by kernel_rfl) ?fin100 _
  obtain ⟨k1, k2, _⟩ := ((R0.via hb3 rfl).below hb4).two
  go_wp2
  refine bodyPost_ret (v := nv rh rl) (by simp [results, Tryz.results39, go_sem, World.cell?_setCell_same', World.cell?_setCell_other, k1, k2]) rfl ⟨rfl, by repeat (first | with_reducible exact Below.refl _ _ | with_reducible refine Below.drew ?_ | with_reducible refine Below.alloc ?_ (by first | omega | (simp <;> omega)) _ | with_reducible refine Below.setCell ?_ (by first | omega | (simp <;> omega)) _ | with_reducible refine Below.trans ?_ (Below.mono hb4 (by first | omega | (simp <;> omega))) | with_reducible refine Below.trans ?_ (Below.mono hb3 (by first | omega | (simp <;> omega))))⟩

theorem and_noughts {a k : Nat} (ha : a < 340282366920938463463374607431768211456) (hk : k ≤ 128) : a &&& (340282366920938463463374607431768211455 - (2 ^ k - 1)) = a / 2 ^ k * 2 ^ k := by
  have e : 340282366920938463463374607431768211455 - (2 ^ k - 1) = 2 ^ k * (2 ^ (128 - k) - 1) := by
    have p := pow_pos2 k
    rw [Nat.mul_sub, ← Nat.pow_add, show k + (128 - k) = 128 by omega, show (2 : Nat) ^ 128 = 340282366920938463463374607431768211456 by decide]
    omega
  rw [e]
  apply Nat.eq_of_testBit_eq
  intro i
  rw [Nat.testBit_and, Nat.mul_comm (a / 2 ^ k), Nat.testBit_two_pow_mul, Nat.testBit_two_pow_mul, Nat.testBit_two_pow_sub_one, Nat.testBit_div_two_pow]
  by_cases h : k ≤ i
  · by_cases h2 : i < 128
    · simp [h, show i - k < 128 - k by omega, Nat.add_sub_cancel' h, Nat.sub_add_cancel h]
    · have : a.testBit i = false := Nat.testBit_lt_two_pow (Nat.lt_of_lt_of_le ha (by rw [show (340282366920938463463374607431768211456 : Nat) = 2 ^ 128 by decide]; exact Nat.pow_le_pow_right (by decide) (by omega)))
      simp [h, this, Nat.add_sub_cancel' h, Nat.sub_add_cancel h]
  · simp [h]

theorem behindP_le {v : Bool} {b : Int} (h0 : 0 ≤ b) : behindP v b ≤ 128 := by
  have := width_le v; unfold behindP; omega

theorem ones_lt {k : Nat} (h : k ≤ 128) : 2 ^ k - 1 < 340282366920938463463374607431768211456 := by
  have := Nat.pow_le_pow_right (n := 2) (by decide) h
  rw [show (2 : Nat) ^ 128 = 340282366920938463463374607431768211456 by decide] at this
  have p := pow_pos2 k
  omega

theorem ofN_le (v : Bool) (a : Nat) (b : Int) : ofN v a b ≤ a := Nat.div_mul_le_self _ _

theorem fitsB_parts {v : Bool} {a : Nat} {b : Int} (h : fitsB v a b = true) : okA v a = true ∧ 0 ≤ b ∧ b ≤ widthA v := by
  simp only [fitsB, Bool.and_eq_true, decide_eq_true_eq] at h
  exact ⟨h.1.1, h.1.2, h.2⟩

theorem and_is {ah al bh bl h l : Int} {a b : Nat} (ha : IsNum ah al a) (hb : IsNum bh bl b) (hr : IsNum h l (a &&& b)) (w : World) :
    Calls Tryz.prog 38 #[nv ah al, nv bh bl] w fun e w' => e = .returned (nv h l) ∧ Below w.heap.size w w' := by
  refine (and_c ha hb w).mono ?_
  rintro e w' ⟨h', l', rfl, hn, hb⟩
  obtain ⟨rfl, rfl⟩ := hn.uniq hr
  exact ⟨rfl, hb⟩

theorem IsNum.zero_iff {h l : Int} {n : Nat} (x : IsNum h l n) : n = 0 ↔ (h = 0 ∧ l = 0) := by
  have := x.h0; have := x.l0; have := x.eq
  omega

set_option maxRecDepth 100000 in
set_option maxHeartbeats 800000 in
theorem pright_c {v : Bool} {h l b : Int} {a : Nat} (ha : IsNum h l a) (w : World) :
    Calls Tryz.prog 17 #[pv v h l b] w fun e w' => e = .returned (.bool (okP v a b)) ∧ Below w.heap.size w w' := by
  obtain ⟨ok, hok⟩ : ∃ ok, fitsB v a b = ok := ⟨_, rfl⟩
  have C1 : Hid (∀ w', Calls Tryz.prog 37 #[av v h l, .int .i64 b] w' fun e w1 => e = .returned (.bool ok) ∧ Below w'.heap.size w' w1) := fun w' => hok ▸ fits_c ha w'
  cases ok
  · have f : Hid (okP v a b = false) := by show _ = _; unfold okP; rw [hok]; rfl
    clear ha hok
    go_enter Tryz.func17, Tryz.ntmps17
    go_wp2_with fail
    have B0 : Below w.heap.size w (w.alloc (.cells #[.bool v, .int .u64 h, .int .u64 l, .int .i64 b] 28)) := by repeat (first | with_reducible exact Below.refl _ _ | with_reducible refine Below.drew ?_ | with_reducible refine Below.alloc ?_ (by first | omega | (simp <;> omega)) _ | with_reducible refine Below.setCell ?_ (by first | omega | (simp <;> omega)) _)
    have S0 : P4 w.heap.size v h l b (w.alloc (.cells #[.bool v, .int .u64 h, .int .u64 l, .int .i64 b] 28)) := P4.of (Blk.new _ _ _)
    refine wp_region_held_drew (S := (P4 w.heap.size v h l b)) (by kernel_rfl) ?hS200 (fun hHeld => ?rest200)
    case hS200 => (first | with_reducible exact S0.drew | exact hHeld.below hb3)
    refine wpAnyH_take (i := 0) (oi := _) (v := ?v201) (List.getElem?_toArray.trans rfl) (by kernel_rfl) (by kernel_rfl) (by kernel_rfl) (fun _ _ _ h => h) (Or.inl ⟨by rfl, ?hy201⟩) (by assumption) ?rest201
    case hy201 => (intro wq hSw; (try simp only [Two, P4] at hSw); go_simp; try with_reducible rfl)
    try simp only [Act.put, List.setIfInBounds_toArray, List.set_cons_zero, List.set_cons_succ]
    refine wpAnyH_take (i := 1) (oi := _) (v := ?v202) (List.getElem?_toArray.trans rfl) (by kernel_rfl) (by kernel_rfl) (by kernel_rfl) (fun _ _ _ h => h) (Or.inl ⟨by rfl, ?hy202⟩) (by assumption) ?rest202
    case hy202 => (intro wq hSw; (try simp only [Two, P4] at hSw); go_simp; try with_reducible rfl)
    try simp only [Act.put, List.setIfInBounds_toArray, List.set_cons_zero, List.set_cons_succ]
    refine wpAnyH_take (i := 2) (oi := _) (v := ?v203) (List.getElem?_toArray.trans rfl) (by kernel_rfl) (by kernel_rfl) (by kernel_rfl) (fun _ _ _ h => h) (Or.inl ⟨by rfl, ?hy203⟩) (by assumption) ?rest203
    case hy203 => (intro wq hSw; (try simp only [Two, P4] at hSw); go_simp; try with_reducible rfl)
    try simp only [Act.put, List.setIfInBounds_toArray, List.set_cons_zero, List.set_cons_succ]
    refine wpAnyH_take (i := 3) (oi := _) (v := ?v204) (List.getElem?_toArray.trans rfl) (by kernel_rfl) (by kernel_rfl) (by kernel_rfl) (fun _ _ _ h => h) (Or.inl ⟨by rfl, ?hy204⟩) (by assumption) ?rest204
    case hy204 => (intro wq hSw; (try simp only [Two, P4] at hSw); go_simp; try with_reducible rfl)
    try simp only [Act.put, List.setIfInBounds_toArray, List.set_cons_zero, List.set_cons_succ]
    refine wpAnyH_ready (rs := [4]) (by kernel_rfl) (by simp) ?rdy205
    refine AllReadyH.cons (List.getElem?_toArray.trans rfl) (fun K hK => ?stp205) AllReadyH.nil
    go_simp
    go_wp2_with fail
    (refine (C1.out _).mono ?_; rintro e w3 ⟨rfl, hb3⟩; have B3 : Below w.heap.size w w3 := Below.via hb3 B0 (Nat.le_refl _) rfl rfl rfl rfl)
    go_wp2_with fail
    refine hK.out _ _ ?hSn205 (fun hHeld2 => ?rest205)
    case hSn205 => (first | with_reducible exact S0.drew | exact hHeld.below hb3)
    clear hK K hHeld
    have hHeld := hHeld2
    clear hHeld2
    try simp only [Act.put, List.setIfInBounds_toArray, List.set_cons_zero, List.set_cons_succ]
    refine wpAnyH_take (i := 5) (oi := _) (v := ?v206) (List.getElem?_toArray.trans rfl) (by kernel_rfl) (by kernel_rfl) (by kernel_rfl) (fun _ _ _ h => h) (Or.inl ⟨by rfl, ?hy206⟩) (by assumption) ?rest206
    case hy206 => (intro wq hSw; (try simp only [Two, P4] at hSw); go_simp; try with_reducible rfl)
    try simp only [Act.put, List.setIfInBounds_toArray, List.set_cons_zero, List.set_cons_succ]
    refine wpAnyH_take (i := 6) (oi := _) (v := undef) (List.getElem?_toArray.trans rfl) (by kernel_rfl) (by kernel_rfl) (by kernel_rfl) (fun _ _ _ h => h) (Or.inr ⟨by rfl, rfl⟩) (by assumption) ?rest207
    try simp only [Act.put, List.setIfInBounds_toArray, List.set_cons_zero, List.set_cons_succ]
    refine wpAnyH_take (i := 7) (oi := _) (v := undef) (List.getElem?_toArray.trans rfl) (by kernel_rfl) (by kernel_rfl) (by kernel_rfl) (fun _ _ _ h => h) (Or.inr ⟨by rfl, rfl⟩) (by assumption) ?rest208
    try simp only [Act.put, List.setIfInBounds_toArray, List.set_cons_zero, List.set_cons_succ]
    refine wpAnyH_take (i := 8) (oi := _) (v := undef) (List.getElem?_toArray.trans rfl) (by kernel_rfl) (by kernel_rfl) (by kernel_rfl) (fun _ _ _ h => h) (Or.inr ⟨by rfl, rfl⟩) (by assumption) ?rest209
    try simp only [Act.put, List.setIfInBounds_toArray, List.set_cons_zero, List.set_cons_succ]
    refine wpAnyH_take (i := 9) (oi := _) (v := undef) (List.getElem?_toArray.trans rfl) (by kernel_rfl) (by kernel_rfl) (by kernel_rfl) (fun _ _ _ h => h) (Or.inr ⟨by rfl, rfl⟩) (by assumption) ?rest210
    try simp only [Act.put, List.setIfInBounds_toArray, List.set_cons_zero, List.set_cons_succ]
    refine wpAnyH_take (i := 10) (oi := _) (v := undef) (List.getElem?_toArray.trans rfl) (by kernel_rfl) (by kernel_rfl) (by kernel_rfl) (fun _ _ _ h => h) (Or.inr ⟨by rfl, rfl⟩) (by assumption) ?rest211
    try simp only [Act.put, List.setIfInBounds_toArray, List.set_cons_zero, List.set_cons_succ]
    refine wpAnyH_take (i := 11) (oi := _) (v := undef) (List.getElem?_toArray.trans rfl) (by kernel_rfl) (by kernel_rfl) (by kernel_rfl) (fun _ _ _ h => h) (Or.inr ⟨by rfl, rfl⟩) (by assumption) ?rest212
    try simp only [Act.put, List.setIfInBounds_toArray, List.set_cons_zero, List.set_cons_succ]
    refine wpAnyH_take (i := 12) (oi := _) (v := undef) (List.getElem?_toArray.trans rfl) (by kernel_rfl) (by kernel_rfl) (by kernel_rfl) (fun _ _ _ h => h) (Or.inr ⟨by rfl, rfl⟩) (by assumption) ?rest213
    try simp only [Act.put, List.setIfInBounds_toArray, List.set_cons_zero, List.set_cons_succ]
    refine wpAnyH_take (i := 13) (oi := _) (v := undef) (List.getElem?_toArray.trans rfl) (by kernel_rfl) (by kernel_rfl) (by kernel_rfl) (fun _ _ _ h => h) (Or.inr ⟨by rfl, rfl⟩) (by assumption) ?rest214
    try simp only [Act.put, List.setIfInBounds_toArray, List.set_cons_zero, List.set_cons_succ]
    refine wpAnyH_take (i := 14) (oi := _) (v := ?v215) (List.getElem?_toArray.trans rfl) (by kernel_rfl) (by kernel_rfl) (by kernel_rfl) (fun _ _ _ h => h) (Or.inl ⟨by rfl, ?hy215⟩) (by assumption) ?rest215
    case hy215 => (intro wq hSw; (try simp only [Two, P4] at hSw); go_simp; try with_reducible rfl)
    try simp only [Act.put, List.setIfInBounds_toArray, List.set_cons_zero, List.set_cons_succ]
    refine wpAnyH_take (i := 15) (oi := _) (v := ?v216) (List.getElem?_toArray.trans rfl) (by kernel_rfl) (by kernel_rfl) (by kernel_rfl) (fun _ _ _ h => h) (Or.inl ⟨by rfl, ?hy216⟩) (by assumption) ?rest216
    case hy216 => (intro wq hSw; (try simp only [Two, P4] at hSw); go_simp; try with_reducible rfl)
    try simp only [Act.put, List.setIfInBounds_toArray, List.set_cons_zero, List.set_cons_succ]
    refine wpAnyH_done (by kernel_rfl) ?fin200 _
    go_wp2
    go_ret
    exact ⟨by rw [f.out]; rfl, B3⟩
  · obtain ⟨_, h0, h1⟩ := fitsB_parts hok
    have hk := behindP_le (v := v) h0
    obtain ⟨rh, rl, hr⟩ := IsNum.ex (ones_lt hk)
    obtain ⟨sh, sl, hs⟩ := IsNum.ex (n := a % 2 ^ behindP v b) (Nat.lt_of_le_of_lt (Nat.mod_le _ _) ha.lt)
    have C2 : Hid (∀ w', Calls Tryz.prog 39 #[pv v h l b] w' fun e w1 => e = .returned (nv rh rl) ∧ Below w'.heap.size w' w1) := fun w' => rest_is h0 h1 hr w'
    have C3 : Hid (∀ w', Calls Tryz.prog 38 #[nv h l, nv rh rl] w' fun e w1 => e = .returned (nv sh sl) ∧ Below w'.heap.size w' w1) := fun w' => and_is ha hr (hs.cast (by rw [Nat.and_two_pow_sub_one_eq_mod])) w'
    have f : Hid (okP v a b = (decide (sh = 0) && decide (sl = 0))) := by
      show _ = _
      unfold okP
      rw [hok, Bool.true_and, Bool.eq_iff_iff]
      simp only [decide_eq_true_eq, Bool.and_eq_true]
      exact hs.zero_iff
    clear ha hok hr hs hk h0 h1
    go_enter Tryz.func17, Tryz.ntmps17
    go_wp2_with fail
    have B0 : Below w.heap.size w (w.alloc (.cells #[.bool v, .int .u64 h, .int .u64 l, .int .i64 b] 28)) := by repeat (first | with_reducible exact Below.refl _ _ | with_reducible refine Below.drew ?_ | with_reducible refine Below.alloc ?_ (by first | omega | (simp <;> omega)) _ | with_reducible refine Below.setCell ?_ (by first | omega | (simp <;> omega)) _)
    have S0 : P4 w.heap.size v h l b (w.alloc (.cells #[.bool v, .int .u64 h, .int .u64 l, .int .i64 b] 28)) := P4.of (Blk.new _ _ _)
    refine wp_region_held_drew (S := (P4 w.heap.size v h l b)) (by kernel_rfl) ?hS300 (fun hHeld => ?rest300)
    case hS300 => (first | with_reducible exact S0.drew | exact hHeld.below hb3 | exact hHeld.below hb4 | exact hHeld.below hb5)
    refine wpAnyH_take (i := 0) (oi := _) (v := ?v301) (List.getElem?_toArray.trans rfl) (by kernel_rfl) (by kernel_rfl) (by kernel_rfl) (fun _ _ _ h => h) (Or.inl ⟨by rfl, ?hy301⟩) (by assumption) ?rest301
    case hy301 => (intro wq hSw; (try simp only [Two, P4] at hSw); go_simp; try with_reducible rfl)
    try simp only [Act.put, List.setIfInBounds_toArray, List.set_cons_zero, List.set_cons_succ]
    refine wpAnyH_take (i := 1) (oi := _) (v := ?v302) (List.getElem?_toArray.trans rfl) (by kernel_rfl) (by kernel_rfl) (by kernel_rfl) (fun _ _ _ h => h) (Or.inl ⟨by rfl, ?hy302⟩) (by assumption) ?rest302
    case hy302 => (intro wq hSw; (try simp only [Two, P4] at hSw); go_simp; try with_reducible rfl)
    try simp only [Act.put, List.setIfInBounds_toArray, List.set_cons_zero, List.set_cons_succ]
    refine wpAnyH_take (i := 2) (oi := _) (v := ?v303) (List.getElem?_toArray.trans rfl) (by kernel_rfl) (by kernel_rfl) (by kernel_rfl) (fun _ _ _ h => h) (Or.inl ⟨by rfl, ?hy303⟩) (by assumption) ?rest303
    case hy303 => (intro wq hSw; (try simp only [Two, P4] at hSw); go_simp; try with_reducible rfl)
    try simp only [Act.put, List.setIfInBounds_toArray, List.set_cons_zero, List.set_cons_succ]
    refine wpAnyH_take (i := 3) (oi := _) (v := ?v304) (List.getElem?_toArray.trans rfl) (by kernel_rfl) (by kernel_rfl) (by kernel_rfl) (fun _ _ _ h => h) (Or.inl ⟨by rfl, ?hy304⟩) (by assumption) ?rest304
    case hy304 => (intro wq hSw; (try simp only [Two, P4] at hSw); go_simp; try with_reducible rfl)
    try simp only [Act.put, List.setIfInBounds_toArray, List.set_cons_zero, List.set_cons_succ]
    refine wpAnyH_ready (rs := [4]) (by kernel_rfl) (by simp) ?rdy305
    refine AllReadyH.cons (List.getElem?_toArray.trans rfl) (fun K hK => ?stp305) AllReadyH.nil
    go_simp
    go_wp2_with fail
    (refine (C1.out _).mono ?_; rintro e w3 ⟨rfl, hb3⟩; have B3 : Below w.heap.size w w3 := Below.via hb3 B0 (Nat.le_refl _) rfl rfl rfl rfl)
    go_wp2_with fail
    refine hK.out _ _ ?hSn305 (fun hHeld2 => ?rest305)
    case hSn305 => (first | with_reducible exact S0.drew | exact hHeld.below hb3 | exact hHeld.below hb4 | exact hHeld.below hb5)
    clear hK K hHeld
    have hHeld := hHeld2
    clear hHeld2
    try simp only [Act.put, List.setIfInBounds_toArray, List.set_cons_zero, List.set_cons_succ]
    refine wpAnyH_take (i := 5) (oi := _) (v := ?v306) (List.getElem?_toArray.trans rfl) (by kernel_rfl) (by kernel_rfl) (by kernel_rfl) (fun _ _ _ h => h) (Or.inl ⟨by rfl, ?hy306⟩) (by assumption) ?rest306
    case hy306 => (intro wq hSw; (try simp only [Two, P4] at hSw); go_simp; try with_reducible rfl)
    try simp only [Act.put, List.setIfInBounds_toArray, List.set_cons_zero, List.set_cons_succ]
    refine wpAnyH_take (i := 6) (oi := _) (v := ?v307) (List.getElem?_toArray.trans rfl) (by kernel_rfl) (by kernel_rfl) (by kernel_rfl) (fun _ _ _ h => h) (Or.inl ⟨by rfl, ?hy307⟩) (by assumption) ?rest307
    case hy307 => (intro wq hSw; (try simp only [Two, P4] at hSw); go_simp; try with_reducible rfl)
    try simp only [Act.put, List.setIfInBounds_toArray, List.set_cons_zero, List.set_cons_succ]
    refine wpAnyH_take (i := 7) (oi := _) (v := ?v308) (List.getElem?_toArray.trans rfl) (by kernel_rfl) (by kernel_rfl) (by kernel_rfl) (fun _ _ _ h => h) (Or.inl ⟨by rfl, ?hy308⟩) (by assumption) ?rest308
    case hy308 => (intro wq hSw; (try simp only [Two, P4] at hSw); go_simp; try with_reducible rfl)
    try simp only [Act.put, List.setIfInBounds_toArray, List.set_cons_zero, List.set_cons_succ]
    refine wpAnyH_take (i := 8) (oi := _) (v := ?v309) (List.getElem?_toArray.trans rfl) (by kernel_rfl) (by kernel_rfl) (by kernel_rfl) (fun _ _ _ h => h) (Or.inl ⟨by rfl, ?hy309⟩) (by assumption) ?rest309
    case hy309 => (intro wq hSw; (try simp only [Two, P4] at hSw); go_simp; try with_reducible rfl)
    try simp only [Act.put, List.setIfInBounds_toArray, List.set_cons_zero, List.set_cons_succ]
    refine wpAnyH_take (i := 9) (oi := _) (v := ?v310) (List.getElem?_toArray.trans rfl) (by kernel_rfl) (by kernel_rfl) (by kernel_rfl) (fun _ _ _ h => h) (Or.inl ⟨by rfl, ?hy310⟩) (by assumption) ?rest310
    case hy310 => (intro wq hSw; (try simp only [Two, P4] at hSw); go_simp; try with_reducible rfl)
    try simp only [Act.put, List.setIfInBounds_toArray, List.set_cons_zero, List.set_cons_succ]
    refine wpAnyH_take (i := 12) (oi := _) (v := ?v311) (List.getElem?_toArray.trans rfl) (by kernel_rfl) (by kernel_rfl) (by kernel_rfl) (fun _ _ _ h => h) (Or.inl ⟨by rfl, ?hy311⟩) (by assumption) ?rest311
    case hy311 => (intro wq hSw; (try simp only [Two, P4] at hSw); go_simp; try with_reducible rfl)
    try simp only [Act.put, List.setIfInBounds_toArray, List.set_cons_zero, List.set_cons_succ]
    refine wpAnyH_ready (rs := [10]) (by kernel_rfl) (by simp) ?rdy312
    refine AllReadyH.cons (List.getElem?_toArray.trans rfl) (fun K hK => ?stp312) AllReadyH.nil
    go_simp
    go_wp2_with fail
    (refine (C2.out _).mono ?_; rintro e w4 ⟨rfl, hb4⟩; have B4 : Below w.heap.size w w4 := Below.via hb4 B3 (Nat.le_refl _) rfl rfl rfl rfl)
    go_wp2_with fail
    refine hK.out _ _ ?hSn312 (fun hHeld2 => ?rest312)
    case hSn312 => (first | with_reducible exact S0.drew | exact hHeld.below hb3 | exact hHeld.below hb4 | exact hHeld.below hb5)
    clear hK K hHeld
    have hHeld := hHeld2
    clear hHeld2
    try simp only [Act.put, List.setIfInBounds_toArray, List.set_cons_zero, List.set_cons_succ]
    refine wpAnyH_ready (rs := [11]) (by kernel_rfl) (by simp) ?rdy313
    refine AllReadyH.cons (List.getElem?_toArray.trans rfl) (fun K hK => ?stp313) AllReadyH.nil
    go_simp
    go_wp2_with fail
    (refine (C3.out _).mono ?_; rintro e w5 ⟨rfl, hb5⟩; have B5 : Below w.heap.size w w5 := Below.via hb5 B4 (Nat.le_refl _) rfl rfl rfl rfl)
    go_wp2_with fail
    refine hK.out _ _ ?hSn313 (fun hHeld2 => ?rest313)
    case hSn313 => (first | with_reducible exact S0.drew | exact hHeld.below hb3 | exact hHeld.below hb4 | exact hHeld.below hb5)
    clear hK K hHeld
    have hHeld := hHeld2
    clear hHeld2
    try simp only [Act.put, List.setIfInBounds_toArray, List.set_cons_zero, List.set_cons_succ]
    refine wpAnyH_take (i := 13) (oi := _) (v := (Value.bool (decide (sh = 0) && decide (sl = 0)))) (List.getElem?_toArray.trans rfl) (by kernel_rfl) (by kernel_rfl) (by kernel_rfl) (fun _ _ _ h => h) (Or.inl ⟨by rfl, ?hy314⟩) (by assumption) ?rest314
    case hy314 => (intro wq hSw; (try simp only [Two, P4] at hSw); go_simp; (by_cases c1 : sh = 0 <;> by_cases c2 : sl = 0 <;> simp [c1, c2]))
    try simp only [Act.put, List.setIfInBounds_toArray, List.set_cons_zero, List.set_cons_succ]
    refine wpAnyH_take (i := 14) (oi := _) (v := ?v315) (List.getElem?_toArray.trans rfl) (by kernel_rfl) (by kernel_rfl) (by kernel_rfl) (fun _ _ _ h => h) (Or.inl ⟨by rfl, ?hy315⟩) (by assumption) ?rest315
    case hy315 => (intro wq hSw; (try simp only [Two, P4] at hSw); go_simp; try with_reducible rfl)
    try simp only [Act.put, List.setIfInBounds_toArray, List.set_cons_zero, List.set_cons_succ]
    refine wpAnyH_take (i := 15) (oi := _) (v := ?v316) (List.getElem?_toArray.trans rfl) (by kernel_rfl) (by kernel_rfl) (by kernel_rfl) (fun _ _ _ h => h) (Or.inl ⟨by rfl, ?hy316⟩) (by assumption) ?rest316
    case hy316 => (intro wq hSw; (try simp only [Two, P4] at hSw); go_simp; try with_reducible rfl)
    try simp only [Act.put, List.setIfInBounds_toArray, List.set_cons_zero, List.set_cons_succ]
    refine wpAnyH_done (by kernel_rfl) ?fin300 _
    go_wp2
    go_ret
    exact ⟨by rw [f.out]; simp, B5⟩
end Go.Proofs.YtipjmmhlfmahbaaGreatDoor

namespace Go.Proofs.YtipjmmhlfmahbaaGreatDoor
open Go.ChangeShapes Go.WideShapes Go.ChangeAt Go.RowKit
set_option linter.unusedVariables false
set_option linter.unusedSimpArgs false

/-- An address's block that is read. -/
def Q3 (B : Nat) (v : Bool) (h l : Int) (wx : World) : Prop :=
  (wx.cell? ⟨B, 0, none⟩ = some (.bool v) ∧ wx.cell? ⟨B, 1, none⟩ = some (.int .u64 h) ∧ wx.cell? ⟨B, 2, none⟩ = some (.int .u64 l)) ∧ Blk wx B #[.bool v, .int .u64 h, .int .u64 l] 26

theorem Q3.of {B : Nat} {v : Bool} {h l : Int} {wx : World} (a : Blk wx B #[.bool v, .int .u64 h, .int .u64 l] 26) : Q3 B v h l wx := ⟨⟨a.cell 0, a.cell 1, a.cell 2⟩, a⟩

theorem Q3.drew {B : Nat} {v : Bool} {h l : Int} {wx : World} (s : Q3 B v h l wx) : Q3 B v h l wx.drew := s

theorem Q3.below {B : Nat} {v : Bool} {h l : Int} {wx w1 : World} (s : Q3 B v h l wx) (hb : Below wx.heap.size wx w1) : Q3 B v h l w1 := Q3.of (s.2.below hb)

theorem Q3.far {B C : Nat} {v : Bool} {h l : Int} {wx : World} (s : Q3 B v h l wx) (hne : B ≠ C) (i j : Nat) (x y : Value) : Q3 B v h l ((wx.setCell ⟨C, i, none⟩ x).setCell ⟨C, j, none⟩ y) := Q3.of ((s.2.far hne _ _).far hne _ _)

set_option maxRecDepth 100000 in
set_option maxHeartbeats 1600000 in
theorem of_ok {v : Bool} {h l b rh rl : Int} {a : Nat} (ha : IsNum h l a) (hf : fitsB v a b = true) (hr : IsNum rh rl (ofN v a b)) (w : World) :
    Calls Tryz.prog 26 #[av v h l, .int .i64 b] w fun e w' => e = .returned (.tuple #[pv v rh rl b, .int .i64 0]) ∧ Below w.heap.size w w' := by
  obtain ⟨_, h0, h1⟩ := fitsB_parts hf
  have hk := behindP_le (v := v) h0
  obtain ⟨oh, ol, ho⟩ := IsNum.ex (ones_lt hk)
  obtain ⟨th, tl, ht⟩ := IsNum.ex (n := 340282366920938463463374607431768211455 - (2 ^ behindP v b - 1)) (by omega)
  have C1 : Hid (∀ w', Calls Tryz.prog 37 #[av v h l, .int .i64 b] w' fun e w1 => e = .returned (.bool true) ∧ Below w'.heap.size w' w1) := fun w' => hf ▸ fits_c ha w'
  have C2 : Hid (∀ w', Calls Tryz.prog 39 #[pv v h l b] w' fun e w1 => e = .returned (nv oh ol) ∧ Below w'.heap.size w' w1) := fun w' => rest_is h0 h1 ho w'
  have C3 : Hid (∀ w', Calls Tryz.prog 51 #[nv oh ol] w' fun e w1 => e = .returned (nv th tl) ∧ Below w'.heap.size w' w1) := fun w' => not_is ho ht w'
  have C4 : Hid (∀ w', Calls Tryz.prog 38 #[nv h l, nv th tl] w' fun e w1 => e = .returned (nv rh rl) ∧ Below w'.heap.size w' w1) := fun w' => and_is ha ht (hr.cast (and_noughts ha.lt hk).symm) w'
  clear ha hf hr ho ht hk h0 h1
  go_enter Tryz.func26, Tryz.ntmps26
  go_wp2_with fail
  refine (C1.out _).mono ?_
  rintro e w1 ⟨rfl, hb1⟩
  have A1 : Blk w1 w.heap.size #[.bool v, .int .u64 h, .int .u64 l] 26 := ((Blk.new _ _ _).alloc _).below hb1
  have R1 : Blk w1 (w.heap.size + 1) #[.bool false, .int .u64 0, .int .u64 0, .int .i64 0] 28 := Blk.below (by simpa using Blk.new (w.alloc (.cells #[.bool v, .int .u64 h, .int .u64 l] 26)) #[.bool false, .int .u64 0, .int .u64 0, .int .i64 0] 28) hb1
  have B1 : Below w.heap.size w w1 := by repeat (first | with_reducible exact Below.refl _ _ | with_reducible refine Below.drew ?_ | with_reducible refine Below.alloc ?_ (by first | omega | (simp <;> omega)) _ | with_reducible refine Below.setCell ?_ (by first | omega | (simp <;> omega)) _ | with_reducible refine Below.trans ?_ (Below.mono hb1 (by first | omega | (simp <;> omega))))
  obtain ⟨c0, c1, c2, c3, c4, c5, c6⟩ := A1.three
  clear C1 hb1
  go_wp2_with fail
  have P1 : Blk (w1.alloc (.cells #[.bool v, .int .u64 h, .int .u64 l, .int .i64 b] 28)) w1.heap.size #[.bool v, .int .u64 h, .int .u64 l, .int .i64 b] 28 := Blk.new _ _ _
  have B2 : Below w.heap.size w (w1.alloc (.cells #[.bool v, .int .u64 h, .int .u64 l, .int .i64 b] 28)) := B1.alloc (Nat.le_of_lt A1.lt) _
  have S0 : Q3 w.heap.size v h l _ := Q3.of (A1.alloc (.cells #[.bool v, .int .u64 h, .int .u64 l, .int .i64 b] 28))
  have hne : w.heap.size ≠ w1.heap.size := Nat.ne_of_lt A1.lt
  refine wp_region_held_drew (S := (Q3 w.heap.size v h l)) (by kernel_rfl) ?hS100 (fun hHeld => ?rest100)
  case hS100 => (first | with_reducible exact S0.drew | with_reducible exact hHeld | exact hHeld.below hb3 | exact hHeld.below hb4 | exact hHeld.below hb5 | exact hHeld.far hne _ _ _ _)
  refine wpAnyH_take (i := 0) (oi := _) (v := ?v101) (List.getElem?_toArray.trans rfl) (by kernel_rfl) (by kernel_rfl) (by kernel_rfl) (fun _ _ _ h => h) (Or.inl ⟨by rfl, ?hy101⟩) (by assumption) ?rest101
  case hy101 => (intro wq hSw; (try simp only [Two, Q3] at hSw); go_simp; try with_reducible rfl)
  try simp only [Act.put, List.setIfInBounds_toArray, List.set_cons_zero, List.set_cons_succ]
  refine wpAnyH_take (i := 1) (oi := _) (v := ?v102) (List.getElem?_toArray.trans rfl) (by kernel_rfl) (by kernel_rfl) (by kernel_rfl) (fun _ _ _ h => h) (Or.inl ⟨by rfl, ?hy102⟩) (by assumption) ?rest102
  case hy102 => (intro wq hSw; (try simp only [Two, Q3] at hSw); go_simp; try with_reducible rfl)
  try simp only [Act.put, List.setIfInBounds_toArray, List.set_cons_zero, List.set_cons_succ]
  refine wpAnyH_ready (rs := [2]) (by kernel_rfl) (by simp) ?rdy103
  refine AllReadyH.cons (List.getElem?_toArray.trans rfl) (fun K hK => ?stp103) AllReadyH.nil
  go_simp
  go_wp2_with fail
  skip
  go_wp2_with fail
  refine hK.out _ _ ?hSn103 (fun hHeld2 => ?rest103)
  case hSn103 => (first | with_reducible exact S0.drew | with_reducible exact hHeld | exact hHeld.below hb3 | exact hHeld.below hb4 | exact hHeld.below hb5 | exact hHeld.far hne _ _ _ _)
  clear hK K hHeld
  have hHeld := hHeld2
  clear hHeld2
  try simp only [Act.put, List.setIfInBounds_toArray, List.set_cons_zero, List.set_cons_succ]
  refine wpAnyH_ready (rs := [3]) (by kernel_rfl) (by simp) ?rdy104
  refine AllReadyH.cons (List.getElem?_toArray.trans rfl) (fun K hK => ?stp104) AllReadyH.nil
  go_simp
  go_wp2_with fail
  (refine (C2.out _).mono ?_; rintro e w3 ⟨rfl, hb3⟩; have B3 : Below w.heap.size w w3 := Below.via hb3 B2 (Nat.le_refl _) rfl rfl rfl rfl)
  go_wp2_with fail
  refine hK.out _ _ ?hSn104 (fun hHeld2 => ?rest104)
  case hSn104 => (first | with_reducible exact S0.drew | with_reducible exact hHeld | exact hHeld.below hb3 | exact hHeld.below hb4 | exact hHeld.below hb5 | exact hHeld.far hne _ _ _ _)
  clear hK K hHeld
  have hHeld := hHeld2
  clear hHeld2
  try simp only [Act.put, List.setIfInBounds_toArray, List.set_cons_zero, List.set_cons_succ]
  refine wpAnyH_ready (rs := [4]) (by kernel_rfl) (by simp) ?rdy105
  refine AllReadyH.cons (List.getElem?_toArray.trans rfl) (fun K hK => ?stp105) AllReadyH.nil
  go_simp
  go_wp2_with fail
  (refine (C3.out _).mono ?_; rintro e w4 ⟨rfl, hb4⟩; have B4 : Below w.heap.size w w4 := Below.via hb4 B3 (Nat.le_refl _) rfl rfl rfl rfl)
  go_wp2_with fail
  refine hK.out _ _ ?hSn105 (fun hHeld2 => ?rest105)
  case hSn105 => (first | with_reducible exact S0.drew | with_reducible exact hHeld | exact hHeld.below hb3 | exact hHeld.below hb4 | exact hHeld.below hb5 | exact hHeld.far hne _ _ _ _)
  clear hK K hHeld
  have hHeld := hHeld2
  clear hHeld2
  try simp only [Act.put, List.setIfInBounds_toArray, List.set_cons_zero, List.set_cons_succ]
  refine wpAnyH_ready (rs := [5]) (by kernel_rfl) (by simp) ?rdy106
  refine AllReadyH.cons (List.getElem?_toArray.trans rfl) (fun K hK => ?stp106) AllReadyH.nil
  go_simp
  go_wp2_with fail
  (refine (C4.out _).mono ?_; rintro e w5 ⟨rfl, hb5⟩; have B5 : Below w.heap.size w w5 := Below.via hb5 B4 (Nat.le_refl _) rfl rfl rfl rfl; obtain ⟨p0, p1, p2, p3, p4, p5, p6, p7, p8⟩ := (((P1.via hb3 rfl).below hb4).below hb5).four)
  go_wp2_with fail
  refine hK.out _ _ ?hSn106 (fun hHeld2 => ?rest106)
  case hSn106 => (first | with_reducible exact S0.drew | with_reducible exact hHeld | exact hHeld.below hb3 | exact hHeld.below hb4 | exact hHeld.below hb5 | exact hHeld.far hne _ _ _ _)
  clear hK K hHeld
  have hHeld := hHeld2
  clear hHeld2
  try simp only [Act.put, List.setIfInBounds_toArray, List.set_cons_zero, List.set_cons_succ]
  refine wpAnyH_take (i := 6) (oi := _) (v := ?v107) (List.getElem?_toArray.trans rfl) (by kernel_rfl) (by kernel_rfl) (by kernel_rfl) (fun _ _ _ h => h) (Or.inl ⟨by rfl, ?hy107⟩) (by assumption) ?rest107
  case hy107 => (intro wq hSw; (try simp only [Two, Q3] at hSw); go_simp; try with_reducible rfl)
  try simp only [Act.put, List.setIfInBounds_toArray, List.set_cons_zero, List.set_cons_succ]
  refine wpAnyH_take (i := 7) (oi := _) (v := ?v108) (List.getElem?_toArray.trans rfl) (by kernel_rfl) (by kernel_rfl) (by kernel_rfl) (fun _ _ _ h => h) (Or.inl ⟨by rfl, ?hy108⟩) (by assumption) ?rest108
  case hy108 => (intro wq hSw; (try simp only [Two, Q3] at hSw); go_simp; try with_reducible rfl)
  try simp only [Act.put, List.setIfInBounds_toArray, List.set_cons_zero, List.set_cons_succ]
  refine wpAnyH_ready (rs := [8]) (by kernel_rfl) (by simp) ?rdy109
  refine AllReadyH.cons (List.getElem?_toArray.trans rfl) (fun K hK => ?stp109) AllReadyH.nil
  go_simp
  go_wp2_with fail
  skip
  go_wp2_with fail
  refine hK.out _ _ ?hSn109 (fun hHeld2 => ?rest109)
  case hSn109 => (first | with_reducible exact S0.drew | with_reducible exact hHeld | exact hHeld.below hb3 | exact hHeld.below hb4 | exact hHeld.below hb5 | exact hHeld.far hne _ _ _ _)
  clear hK K hHeld
  have hHeld := hHeld2
  clear hHeld2
  try simp only [Act.put, List.setIfInBounds_toArray, List.set_cons_zero, List.set_cons_succ]
  refine wpAnyH_done (by kernel_rfl) ?fin100 _
  obtain ⟨r0, r1, r2, r3, r4, r5, r6, r7, r8⟩ := ((((R1.alloc (.cells #[.bool v, .int .u64 h, .int .u64 l, .int .i64 b] 28)).via hb3 rfl).below hb4).below hb5).four
  have hne2 : w.heap.size + 1 ≠ w1.heap.size := Nat.ne_of_lt R1.lt
  go_wp2
  refine bodyPost_ret (v := .tuple #[pv v rh rl b, .int .i64 0]) (by simp [results, Tryz.results26, go_sem, World.cell?_setCell_same', World.cell?_setCell_other, *]) rfl ⟨rfl, by repeat (first | with_reducible exact Below.refl _ _ | with_reducible refine Below.drew ?_ | with_reducible refine Below.alloc ?_ (by first | omega | (simp <;> omega)) _ | with_reducible refine Below.setCell ?_ (by first | omega | (simp <;> omega)) _ | with_reducible refine Below.trans ?_ (Below.mono B5 (by first | omega | (simp <;> omega))))⟩
end Go.Proofs.YtipjmmhlfmahbaaGreatDoor

namespace Go.Proofs.YtipjmmhlfmahbaaGreatDoor
open Go.ChangeShapes Go.WideShapes Go.ChangeAt Go.RowKit
set_option linter.unusedVariables false
set_option linter.unusedSimpArgs false

theorem IsNum.inj {h l h' l' : Int} {n m : Nat} (x : IsNum h l n) (y : IsNum h' l' m) : n = m ↔ (h = h' ∧ l = l') := by
  constructor
  · intro e; exact (x.cast e).uniq y
  · rintro ⟨rfl, rfl⟩
    have := x.eq; have := y.eq; omega

end Go.Proofs.YtipjmmhlfmahbaaGreatDoor

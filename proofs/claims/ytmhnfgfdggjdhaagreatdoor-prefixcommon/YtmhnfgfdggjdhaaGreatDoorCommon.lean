/-
  The walk of PrefixCommon.
-/
import Derived.Test.YtmhnfgfdggjdhaaGreatDoorRef3g
import Derived.Test.YtmhnfgfdggjdhaaGreatDoorHex
import Derived.Deep.DeepCutAuto
namespace Go.Proofs.YtmhnfgfdggjdhaaGreatDoor
open Go.ChangeShapes Go.WideShapes Go.ChangeAt Go.RowKit
set_option linter.unusedVariables false
set_option linter.unusedSimpArgs false

theorem width_nat (v : Bool) : ∃ W : Nat, widthA v = (W : Nat) := by
  cases v
  · exact ⟨32, rfl⟩
  · exact ⟨128, rfl⟩

/-- What lies in the common prefix. -/
theorem common_within {v : Bool} {n m W k : Nat} {b c mn : Int} (kp : okP v n b = true) (kq : okP v m c = true) (hn : n < 2 ^ W) (hm : m < 2 ^ W) (hW : widthA v = (W : Nat)) (hA : AlikeIs W (fun i => bitN n (W - 1 - i)) (fun i => bitN m (W - 1 - i)) k) (hmn : mn = min (min b c) ((k : Nat) : Int)) :
    withinB v n b v (ofN v n mn) mn = true ∧ withinB v m c v (ofN v n mn) mn = true ∧ okP v (ofN v n mn) mn = true ∧ ofN v m mn = ofN v n mn := by
  obtain ⟨op, b0, b1⟩ := fitsB_parts (okP_parts kp).1
  obtain ⟨oq, c0, c1⟩ := fitsB_parts (okP_parts kq).1
  have f1 : fitsB v n mn = true := by
    simp only [fitsB, op, Bool.true_and, Bool.and_eq_true, decide_eq_true_eq]; omega
  have f2 : fitsB v m mn = true := by
    simp only [fitsB, oq, Bool.true_and, Bool.and_eq_true, decide_eq_true_eq]; omega
  have e : ofN v m mn = ofN v n mn := by
    obtain ⟨M, hM⟩ : ∃ M : Nat, mn = (M : Nat) := ⟨mn.toNat, by omega⟩
    have te := (top_eq hn hm M (by omega)).1 (fun i hi => hA.2.1 i (by omega))
    have eb : behindP v mn = W - M := by unfold behindP; omega
    unfold ofN
    rw [eb, te]
  have x1 : hasB v (ofN v n mn) mn v n = true := has_mk f1 rfl
  have x2 : hasB v (ofN v n mn) mn v m = true := has_mk f2 e.symm
  refine ⟨?_, ?_, has_ok x1, e⟩
  · simp only [withinB, kp, x1, Bool.true_and, Bool.and_true, decide_eq_true_eq]; omega
  · simp only [withinB, kq, x2, Bool.true_and, Bool.and_true, decide_eq_true_eq]; omega

theorem ofN_bit {v : Bool} {n W K : Nat} (hW : widthA v = (W : Nat)) (hK : K < W) : ofN v n ((K : Nat) + 1 : Int) = ofN v n (K : Nat) + bitN n (W - 1 - K) * 2 ^ (behindP v (K : Nat) - 1) := by
  have e1 : behindP v (K : Nat) = W - 1 - K + 1 := by unfold behindP; omega
  have e2 : behindP v ((K : Nat) + 1 : Int) = W - 1 - K := by unfold behindP; omega
  unfold ofN
  rw [e1, e2, Nat.add_sub_cancel, half_up n (W - 1 - K), Nat.add_mul, Nat.pow_succ, Nat.mul_comm 2, Nat.mul_assoc, Nat.mul_comm 2]

/-- Where it isn't one of them they lie in unlike halves. -/
theorem common_halves {v : Bool} {n m W k : Nat} {b c mn : Int} (kp : okP v n b = true) (kq : okP v m c = true) (hn : n < 2 ^ W) (hm : m < 2 ^ W) (hW : widthA v = (W : Nat)) (hA : AlikeIs W (fun i => bitN n (W - 1 - i)) (fun i => bitN m (W - 1 - i)) k) (hmn : mn = min (min b c) ((k : Nat) : Int)) (np : ¬ (ofN v n mn = n ∧ mn = b)) (nq : ¬ (ofN v n mn = m ∧ mn = c)) :
    mn < widthA v ∧ ((withinB v n b v (ofN v n mn) (mn + 1) = true ∧ withinB v m c v (ofN v n mn + 2 ^ (behindP v mn - 1)) (mn + 1) = true) ∨ (withinB v n b v (ofN v n mn) (mn + 1) = false ∧ withinB v m c v (ofN v n mn) (mn + 1) = true ∧ withinB v n b v (ofN v n mn + 2 ^ (behindP v mn - 1)) (mn + 1) = true)) := by
  obtain ⟨op, b0, b1⟩ := fitsB_parts (okP_parts kp).1
  obtain ⟨oq, c0, c1⟩ := fitsB_parts (okP_parts kq).1
  obtain ⟨_, _, _, e⟩ := common_within kp kq hn hm hW hA hmn
  have nb : mn ≠ b := fun h => np ⟨by rw [h]; exact ofN_self (okP_parts kp).2, h⟩
  have nc : mn ≠ c := fun h => nq ⟨by rw [← e, h]; exact ofN_self (okP_parts kq).2, h⟩
  obtain rfl : mn = (k : Nat) := by omega
  have kW : k < W := by omega
  have df := hA.2.2 kW
  have q1 := bitN_le n (W - 1 - k)
  have q2 := bitN_le m (W - 1 - k)
  have s1 := ofN_bit (n := n) hW kW
  have s2 := ofN_bit (n := m) hW kW
  rw [e] at s2
  have f1 : fitsB v n ((k : Nat) + 1 : Int) = true := by
    simp only [fitsB, op, Bool.true_and, Bool.and_eq_true, decide_eq_true_eq]; omega
  have f2 : fitsB v m ((k : Nat) + 1 : Int) = true := by
    simp only [fitsB, oq, Bool.true_and, Bool.and_eq_true, decide_eq_true_eq]; omega
  have p := pow_pos2 (behindP v (k : Nat) - 1)
  have win (x : Nat) (h : x = ofN v n ((k : Nat) + 1 : Int)) : withinB v n b v x ((k : Nat) + 1 : Int) = true := by
    simp only [withinB, kp, has_mk f1 h, Bool.true_and, Bool.and_true, decide_eq_true_eq]; omega
  have wim (x : Nat) (h : x = ofN v m ((k : Nat) + 1 : Int)) : withinB v m c v x ((k : Nat) + 1 : Int) = true := by
    simp only [withinB, kq, has_mk f2 h, Bool.true_and, Bool.and_true, decide_eq_true_eq]; omega
  refine ⟨by omega, ?_⟩
  have c1 : bitN n (W - 1 - k) = 0 ∨ bitN n (W - 1 - k) = 1 := by omega
  rcases c1 with z | z
  · have z2 : bitN m (W - 1 - k) = 1 := by
      have : bitN m (W - 1 - k) ≠ 0 := fun h => df (by show bitN n _ = bitN m _; omega)
      omega
    rw [z, Nat.zero_mul, Nat.add_zero] at s1
    rw [z2, Nat.one_mul] at s2
    exact Or.inl ⟨win _ s1.symm, wim _ s2.symm⟩
  · have z2 : bitN m (W - 1 - k) = 0 := by
      have : bitN m (W - 1 - k) ≠ 1 := fun h => df (by show bitN n _ = bitN m _; omega)
      omega
    rw [z, Nat.one_mul] at s1
    rw [z2, Nat.zero_mul, Nat.add_zero] at s2
    refine Or.inr ⟨?_, wim _ s2.symm, win _ s1.symm⟩
    cases hx : withinB v n b v (ofN v n (k : Nat)) ((k : Nat) + 1 : Int)
    · rfl
    · have := (has_parts (within_parts hx).2.2).2.2
      omega

/-- What the law keeps: two prefixes, and the two answers. -/
def CB (w : World) (X Y : Nat) (v : Bool) (ph pl b : Int) (u : Bool) (qh ql c : Int) (xv : Bool) (xh xl xb : Int) (W : World) : Prop :=
  (W.cell? ⟨w.heap.size, 0, none⟩ = some (.bool v) ∧ W.cell? ⟨w.heap.size, 1, none⟩ = some (.int .u64 ph) ∧ W.cell? ⟨w.heap.size, 2, none⟩ = some (.int .u64 pl) ∧ W.cell? ⟨w.heap.size, 3, none⟩ = some (.int .i64 b) ∧ W.cell? ⟨w.heap.size + 1, 0, none⟩ = some (.bool u) ∧ W.cell? ⟨w.heap.size + 1, 1, none⟩ = some (.int .u64 qh) ∧ W.cell? ⟨w.heap.size + 1, 2, none⟩ = some (.int .u64 ql) ∧ W.cell? ⟨w.heap.size + 1, 3, none⟩ = some (.int .i64 c) ∧ W.cell? ⟨X, 0, none⟩ = some (.bool xv) ∧ W.cell? ⟨X, 1, none⟩ = some (.int .u64 xh) ∧ W.cell? ⟨X, 2, none⟩ = some (.int .u64 xl) ∧ W.cell? ⟨X, 3, none⟩ = some (.int .i64 xb) ∧ W.cell? ⟨Y, 0, none⟩ = some (.bool xv) ∧ W.cell? ⟨Y, 1, none⟩ = some (.int .u64 xh) ∧ W.cell? ⟨Y, 2, none⟩ = some (.int .u64 xl) ∧ W.cell? ⟨Y, 3, none⟩ = some (.int .i64 xb)) ∧ Blk W w.heap.size #[.bool v, .int .u64 ph, .int .u64 pl, .int .i64 b] 28 ∧ Blk W (w.heap.size + 1) #[.bool u, .int .u64 qh, .int .u64 ql, .int .i64 c] 28 ∧ Blk W X #[.bool xv, .int .u64 xh, .int .u64 xl, .int .i64 xb] 28 ∧ Blk W Y #[.bool xv, .int .u64 xh, .int .u64 xl, .int .i64 xb] 28 ∧ Below w.heap.size w W

theorem CB.of {w : World} {X Y : Nat} {v : Bool} {ph pl b : Int} {u : Bool} {qh ql c : Int} {xv : Bool} {xh xl xb : Int} {W : World} (x0 : Blk W w.heap.size #[.bool v, .int .u64 ph, .int .u64 pl, .int .i64 b] 28) (x1 : Blk W (w.heap.size + 1) #[.bool u, .int .u64 qh, .int .u64 ql, .int .i64 c] 28) (x2 : Blk W X #[.bool xv, .int .u64 xh, .int .u64 xl, .int .i64 xb] 28) (x3 : Blk W Y #[.bool xv, .int .u64 xh, .int .u64 xl, .int .i64 xb] 28) (y : Below w.heap.size w W) : CB w X Y v ph pl b u qh ql c xv xh xl xb W := ⟨⟨x0.cell 0, x0.cell 1, x0.cell 2, x0.cell 3, x1.cell 0, x1.cell 1, x1.cell 2, x1.cell 3, x2.cell 0, x2.cell 1, x2.cell 2, x2.cell 3, x3.cell 0, x3.cell 1, x3.cell 2, x3.cell 3⟩, x0, x1, x2, x3, y⟩

theorem CB.below {w : World} {X Y : Nat} {v : Bool} {ph pl b : Int} {u : Bool} {qh ql c : Int} {xv : Bool} {xh xl xb : Int} {W w1 : World} (k : CB w X Y v ph pl b u qh ql c xv xh xl xb W) (e : Below W.heap.size W w1) : CB w X Y v ph pl b u qh ql c xv xh xl xb w1 :=
  CB.of (k.2.1.below e) (k.2.2.1.below e) (k.2.2.2.1.below e) (k.2.2.2.2.1.below e) (k.2.2.2.2.2.trans (e.mono k.2.2.2.2.2.size))

theorem CB.alloc {w : World} {X Y : Nat} {v : Bool} {ph pl b : Int} {u : Bool} {qh ql c : Int} {xv : Bool} {xh xl xb : Int} {W : World} (k : CB w X Y v ph pl b u qh ql c xv xh xl xb W) (o : Obj) : CB w X Y v ph pl b u qh ql c xv xh xl xb (W.alloc o) :=
  CB.of (k.2.1.alloc o) (k.2.2.1.alloc o) (k.2.2.2.1.alloc o) (k.2.2.2.2.1.alloc o) (k.2.2.2.2.2.alloc (Nat.le_of_lt k.2.1.lt) o)

set_option maxRecDepth 100000 in
set_option maxHeartbeats 1600000 in
theorem common_walk_no {v u : Bool} {ph pl b qh ql c : Int} {n m : Nat} (hp : IsNum ph pl n) (hq : IsNum qh ql m) (hc : okP v n b = false ∨ (okP v n b = true ∧ okP u m c = false) ∨ (okP v n b = true ∧ okP u m c = true ∧ v ≠ u)) (w : World) (hL : LW w)
    (aw : ∀ w, LW w → Calls Tryz.prog 11 #[] w fun e w' => e = .returned (.bool true) ∧ Below w.heap.size w w') :
    Calls Tryz.prog 4 #[pv v ph pl b, pv u qh ql c] w fun e w' => e = .returned (.bool true) ∧ Below w.heap.size w w' := by
  have hz := hL.sz
  have R0 : Blk ((w.alloc (.cells #[.bool v, .int .u64 ph, .int .u64 pl, .int .i64 b] 28)).alloc (.cells #[.bool u, .int .u64 qh, .int .u64 ql, .int .i64 c] 28)) w.heap.size #[.bool v, .int .u64 ph, .int .u64 pl, .int .i64 b] 28 ∧ Blk ((w.alloc (.cells #[.bool v, .int .u64 ph, .int .u64 pl, .int .i64 b] 28)).alloc (.cells #[.bool u, .int .u64 qh, .int .u64 ql, .int .i64 c] 28)) (w.heap.size + 1) #[.bool u, .int .u64 qh, .int .u64 ql, .int .i64 c] 28 := ⟨(Blk.new _ _ _).alloc _, Blk.new1 _ _ _ _⟩
  have B0 : Below w.heap.size w ((w.alloc (.cells #[.bool v, .int .u64 ph, .int .u64 pl, .int .i64 b] 28)).alloc (.cells #[.bool u, .int .u64 qh, .int .u64 ql, .int .i64 c] 28)) := by repeat (first | with_reducible exact Below.refl _ _ | with_reducible refine Below.drew ?_ | with_reducible refine Below.alloc ?_ (by first | omega | (simp <;> omega)) _ | with_reducible refine Below.setCell ?_ (by first | omega | (simp <;> omega)) _)
  have AW := aw _ (hL.of B0 hz)
  have CM : Hid (∀ w', Calls Tryz.prog 22 #[pv v ph pl b, pv u qh ql c] w' fun e w1 => e = .returned (.tuple #[pv false 0 0 0, .int .i64 1]) ∧ Below w'.heap.size w' w1) := fun w' => common_no hp hq hc w'
  have CR : Hid (∀ w', Calls Tryz.prog 23 #[pv v ph pl b, pv u qh ql c] w' fun e w1 => e = .returned (.tuple #[pv false 0 0 0, .int .i64 1]) ∧ Below w'.heap.size w' w1) := fun w' => rcommon_no hp hq hc w'
  clear hp hq hc hL aw
  go_enter Tryz.func4, Tryz.ntmps4
  go_wp2_with fail
  refine AW.mono ?_
  rintro e w1 ⟨rfl, hb⟩
  have R1 := R0.1.below hb
  have R2 := R0.2.below hb
  have B1 := B0.trans (hb.mono B0.size)
  obtain ⟨p0, p1, p2, p3, p4, p5, p6, p7, p8⟩ := R1.four
  obtain ⟨q0, q1, q2, q3, q4, q5, q6, q7, q8⟩ := R2.four
  clear hb R0 AW B0
  go_wp2_with fail
  refine (CM.out _).mono ?_
  rintro e w2 ⟨rfl, hb⟩
  have S1 := (R1.below hb).alloc (.cells #[.bool false, .int .u64 0, .int .u64 0, .int .i64 0] 28)
  have S2 := (R2.below hb).alloc (.cells #[.bool false, .int .u64 0, .int .u64 0, .int .i64 0] 28)
  have S3 : Blk (w2.alloc (.cells #[.bool false, .int .u64 0, .int .u64 0, .int .i64 0] 28)) w2.heap.size #[.bool false, .int .u64 0, .int .u64 0, .int .i64 0] 28 := Blk.new _ _ _
  have B2 := (B1.trans (hb.mono B1.size)).alloc (Nat.le_of_lt (R1.below hb).lt) (.cells #[.bool false, .int .u64 0, .int .u64 0, .int .i64 0] 28)
  clear p0 p1 p2 p3 p4 p5 p6 p7 p8 q0 q1 q2 q3 q4 q5 q6 q7 q8
  obtain ⟨p0, p1, p2, p3, p4, p5, p6, p7, p8⟩ := (R1.below hb).four
  obtain ⟨q0, q1, q2, q3, q4, q5, q6, q7, q8⟩ := (R2.below hb).four
  clear hb R1 R2 B1 CM
  go_wp2_with fail
  refine (CR.out _).mono ?_
  rintro e w3 ⟨rfl, hb⟩
  have R : CB w w2.heap.size w3.heap.size v ph pl b u qh ql c false 0 0 0 (w3.alloc (.cells #[.bool false, .int .u64 0, .int .u64 0, .int .i64 0] 28)) := CB.of ((S1.below hb).alloc _) ((S2.below hb).alloc _) ((S3.below hb).alloc _) (Blk.new _ _ _) ((B2.trans (hb.mono B2.size)).alloc (Nat.le_of_lt (S1.below hb).lt) _)
  have F := R.1
  clear hb S1 S2 S3 B2 CR p0 p1 p2 p3 p4 p5 p6 p7 p8 q0 q1 q2 q3 q4 q5 q6 q7 q8
  go_wp2
  go_ret
  exact ⟨by first | rfl | simp, R.2.2.2.2.2⟩

set_option maxRecDepth 100000 in
set_option maxHeartbeats 3200000 in
theorem common_walk_ok {v : Bool} {ph pl b qh ql c : Int} {n m : Nat} (hp : IsNum ph pl n) (hq : IsNum qh ql m) (kp : okP v n b = true) (kq : okP v m c = true) (w : World) (hL : LW w)
    (aw : ∀ w, LW w → Calls Tryz.prog 11 #[] w fun e w' => e = .returned (.bool true) ∧ Below w.heap.size w w') :
    Calls Tryz.prog 4 #[pv v ph pl b, pv v qh ql c] w fun e w' => e = .returned (.bool true) ∧ Below w.heap.size w w' := by
  have hz := hL.sz
  have R0 : Blk ((w.alloc (.cells #[.bool v, .int .u64 ph, .int .u64 pl, .int .i64 b] 28)).alloc (.cells #[.bool v, .int .u64 qh, .int .u64 ql, .int .i64 c] 28)) w.heap.size #[.bool v, .int .u64 ph, .int .u64 pl, .int .i64 b] 28 ∧ Blk ((w.alloc (.cells #[.bool v, .int .u64 ph, .int .u64 pl, .int .i64 b] 28)).alloc (.cells #[.bool v, .int .u64 qh, .int .u64 ql, .int .i64 c] 28)) (w.heap.size + 1) #[.bool v, .int .u64 qh, .int .u64 ql, .int .i64 c] 28 := ⟨(Blk.new _ _ _).alloc _, Blk.new1 _ _ _ _⟩
  have B0 : Below w.heap.size w ((w.alloc (.cells #[.bool v, .int .u64 ph, .int .u64 pl, .int .i64 b] 28)).alloc (.cells #[.bool v, .int .u64 qh, .int .u64 ql, .int .i64 c] 28)) := by repeat (first | with_reducible exact Below.refl _ _ | with_reducible refine Below.drew ?_ | with_reducible refine Below.alloc ?_ (by first | omega | (simp <;> omega)) _ | with_reducible refine Below.setCell ?_ (by first | omega | (simp <;> omega)) _)
  have AW := aw _ (hL.of B0 hz)
  obtain ⟨W, hW⟩ := width_nat v
  have op := (fitsB_parts (okP_parts kp).1).1
  have oq := (fitsB_parts (okP_parts kq).1).1
  have hnW := pow_of_okA hW hp.lt op
  have hmW := pow_of_okA hW hq.lt oq
  obtain ⟨k, hA⟩ : ∃ k, AlikeIs W (fun i => bitN n (W - 1 - i)) (fun i => bitN m (W - 1 - i)) k := ⟨_, (alike_len hnW hmW).2⟩
  obtain ⟨mn, hmn⟩ : ∃ mn : Int, mn = min (min b c) ((k : Nat) : Int) := ⟨_, rfl⟩
  have xlt : ofN v n mn < 340282366920938463463374607431768211456 := Nat.lt_of_le_of_lt (ofN_le _ _ _) hp.lt
  obtain ⟨rh, rl, hr⟩ := IsNum.ex xlt
  obtain ⟨t1, t2, t3, t4⟩ := common_within kp kq hnW hmW hW hA hmn
  have CM : Hid (∀ w', Calls Tryz.prog 22 #[pv v ph pl b, pv v qh ql c] w' fun e w1 => e = .returned (.tuple #[pv v rh rl mn, .int .i64 0]) ∧ Below w'.heap.size w' w1) := fun w' => common_ok hp hq kp kq hW hA hmn hr w'
  have CR : Hid (∀ w', Calls Tryz.prog 23 #[pv v ph pl b, pv v qh ql c] w' fun e w1 => e = .returned (.tuple #[pv v rh rl mn, .int .i64 0]) ∧ Below w'.heap.size w' w1) := fun w' => rcommon_ok hp hq kp kq hW hA hmn hr w'
  have X1 : Hid (∀ w', Calls Tryz.prog 24 #[pv v ph pl b, pv v rh rl mn] w' fun e w1 => e = .returned (.bool true) ∧ Below w'.heap.size w' w1) := fun w' => t1 ▸ within_c hp hr w'
  have X2 : Hid (∀ w', Calls Tryz.prog 24 #[pv v qh ql c, pv v rh rl mn] w' fun e w1 => e = .returned (.bool true) ∧ Below w'.heap.size w' w1) := fun w' => t2 ▸ within_c hq hr w'
  have EP : ofN v n mn = n ↔ (rh = ph ∧ rl = pl) := hr.inj hp
  have EQ : ofN v n mn = m ↔ (rh = qh ∧ rl = ql) := hr.inj hq
  have HC : Hid (¬ (ofN v n mn = n ∧ mn = b) → ¬ (ofN v n mn = m ∧ mn = c) → ∃ sh sl, (∀ w', Calls Tryz.prog 12 #[pv v rh rl mn] w' fun e w1 => e = .returned (.tuple #[pv v rh rl (mn + 1), pv v sh sl (mn + 1), .int .i64 0]) ∧ Below w'.heap.size w' w1) ∧ (((∀ w', Calls Tryz.prog 24 #[pv v ph pl b, pv v rh rl (mn + 1)] w' fun e w1 => e = .returned (.bool true) ∧ Below w'.heap.size w' w1) ∧ (∀ w', Calls Tryz.prog 24 #[pv v qh ql c, pv v sh sl (mn + 1)] w' fun e w1 => e = .returned (.bool true) ∧ Below w'.heap.size w' w1)) ∨ ((∀ w', Calls Tryz.prog 24 #[pv v ph pl b, pv v rh rl (mn + 1)] w' fun e w1 => e = .returned (.bool false) ∧ Below w'.heap.size w' w1) ∧ (∀ w', Calls Tryz.prog 24 #[pv v qh ql c, pv v rh rl (mn + 1)] w' fun e w1 => e = .returned (.bool true) ∧ Below w'.heap.size w' w1) ∧ (∀ w', Calls Tryz.prog 24 #[pv v ph pl b, pv v sh sl (mn + 1)] w' fun e w1 => e = .returned (.bool true) ∧ Below w'.heap.size w' w1)))) := fun np nq => by
    obtain ⟨lt, hh⟩ := common_halves kp kq hnW hmW hW hA hmn np nq
    have hs : ofN v n mn + 2 ^ (behindP v mn - 1) < 340282366920938463463374607431768211456 := Nat.lt_of_le_of_lt (high_ok t3 lt xlt).2.2.2 (lastN_small t3 xlt).1
    obtain ⟨sh, sl, hsn⟩ := IsNum.ex hs
    refine ⟨sh, sl, fun w' => half_ok hr t3 lt hsn w', ?_⟩
    rcases hh with ⟨y1, y2⟩ | ⟨y1, y2, y3⟩
    · exact Or.inl ⟨fun w' => y1 ▸ within_c hp hr w', fun w' => y2 ▸ within_c hq hsn w'⟩
    · exact Or.inr ⟨fun w' => y1 ▸ within_c hp hr w', fun w' => y2 ▸ within_c hq hr w', fun w' => y3 ▸ within_c hp hsn w'⟩
  generalize ofN v n mn = N at *
  have EPH : Hid (N = n ↔ (rh = ph ∧ rl = pl)) := EP
  have EQH : Hid (N = m ↔ (rh = qh ∧ rl = ql)) := EQ
  clear hp hq kp kq hW op oq hnW hmW hA hmn xlt hr t1 t2 t3 t4 hL aw EP EQ
  go_enter Tryz.func4, Tryz.ntmps4
  go_wp2_with fail
  refine AW.mono ?_
  rintro e w1 ⟨rfl, hb⟩
  have R1 := R0.1.below hb
  have R2 := R0.2.below hb
  have B1 := B0.trans (hb.mono B0.size)
  obtain ⟨p0, p1, p2, p3, p4, p5, p6, p7, p8⟩ := R1.four
  obtain ⟨q0, q1, q2, q3, q4, q5, q6, q7, q8⟩ := R2.four
  clear hb R0 AW B0
  go_wp2_with fail
  refine (CM.out _).mono ?_
  rintro e w2 ⟨rfl, hb⟩
  have S1 := (R1.below hb).alloc (.cells #[.bool v, .int .u64 rh, .int .u64 rl, .int .i64 mn] 28)
  have S2 := (R2.below hb).alloc (.cells #[.bool v, .int .u64 rh, .int .u64 rl, .int .i64 mn] 28)
  have S3 : Blk (w2.alloc (.cells #[.bool v, .int .u64 rh, .int .u64 rl, .int .i64 mn] 28)) w2.heap.size #[.bool v, .int .u64 rh, .int .u64 rl, .int .i64 mn] 28 := Blk.new _ _ _
  have B2 := (B1.trans (hb.mono B1.size)).alloc (Nat.le_of_lt (R1.below hb).lt) (.cells #[.bool v, .int .u64 rh, .int .u64 rl, .int .i64 mn] 28)
  clear p0 p1 p2 p3 p4 p5 p6 p7 p8 q0 q1 q2 q3 q4 q5 q6 q7 q8
  obtain ⟨p0, p1, p2, p3, p4, p5, p6, p7, p8⟩ := (R1.below hb).four
  obtain ⟨q0, q1, q2, q3, q4, q5, q6, q7, q8⟩ := (R2.below hb).four
  clear hb R1 R2 B1 CM
  go_wp2_with fail
  refine (CR.out _).mono ?_
  rintro e w3 ⟨rfl, hb⟩
  have R : CB w w2.heap.size w3.heap.size v ph pl b v qh ql c v rh rl mn (w3.alloc (.cells #[.bool v, .int .u64 rh, .int .u64 rl, .int .i64 mn] 28)) := CB.of ((S1.below hb).alloc _) ((S2.below hb).alloc _) ((S3.below hb).alloc _) (Blk.new _ _ _) ((B2.trans (hb.mono B2.size)).alloc (Nat.le_of_lt (S1.below hb).lt) _)
  have F := R.1
  clear hb S1 S2 S3 B2 CR p0 p1 p2 p3 p4 p5 p6 p7 p8 q0 q1 q2 q3 q4 q5 q6 q7 q8
  go_wp2_with fail
  refine (X1.out _).mono ?_
  rintro e wn ⟨rfl, hb⟩
  replace R := R.below hb
  replace F := R.1
  clear hb
  go_wp2_with fail
  refine (X2.out _).mono ?_
  rintro e wn ⟨rfl, hb⟩
  replace R := R.below hb
  replace F := R.1
  clear hb
  clear X1 X2
  by_cases np : N = n ∧ mn = b
  · obtain ⟨rfl, rfl⟩ := EPH.out.1 np.1
    obtain rfl := np.2
    clear np HC EPH EQH
    go_wp2
    go_ret
    exact ⟨by first | rfl | simp, R.2.2.2.2.2⟩
  · have d1 : ¬ rh = ph ∨ (rh = ph ∧ ¬ rl = pl) ∨ (rh = ph ∧ rl = pl ∧ ¬ mn = b) := by
      by_cases a1 : rh = ph
      · by_cases a2 : rl = pl
        · exact Or.inr (Or.inr ⟨a1, a2, fun h => np ⟨EPH.out.2 ⟨a1, a2⟩, h⟩⟩)
        · exact Or.inr (Or.inl ⟨a1, a2⟩)
      · exact Or.inl a1
    by_cases nq : N = m ∧ mn = c
    · obtain ⟨rfl, rfl⟩ := EQH.out.1 nq.1
      obtain rfl := nq.2
      clear np nq HC EPH EQH
      rcases d1 with d1 | ⟨rfl, d1⟩ | ⟨rfl, rfl, d1⟩
      all_goals
        go_wp2
        go_ret
        exact ⟨by first | rfl | simp, R.2.2.2.2.2⟩
    · have d2 : ¬ rh = qh ∨ (rh = qh ∧ ¬ rl = ql) ∨ (rh = qh ∧ rl = ql ∧ ¬ mn = c) := by
        by_cases a1 : rh = qh
        · by_cases a2 : rl = ql
          · exact Or.inr (Or.inr ⟨a1, a2, fun h => nq ⟨EQH.out.2 ⟨a1, a2⟩, h⟩⟩)
          · exact Or.inr (Or.inl ⟨a1, a2⟩)
        · exact Or.inl a1
      obtain ⟨sh, sl, HV, HW⟩ := HC.out np nq
      have HVH : Hid _ := HV
      have HWH : Hid _ := HW
      have d1H : Hid _ := d1
      have d2H : Hid _ := d2
      clear np nq HC EPH EQH HV HW d1 d2
      go_upto_region 11 with fail
      go_cut [53] (fun t wc => t = .bool false ∧ CB w w2.heap.size w3.heap.size v ph pl b v qh ql c v rh rl mn wc)
      case first =>
        have d1 := d1H.out
        have d2 := d2H.out
        clear HVH HWH d1H d2H
        rcases d1 with d1 | ⟨rfl, d1⟩ | ⟨rfl, rfl, d1⟩ <;> rcases d2 with d2 | ⟨rfl, d2⟩ | ⟨rfl, rfl, d2⟩
        all_goals
          go_wp2_with fail
          go_meet
          case rel => exact ⟨by first | rfl | simp, R⟩
      case rest =>
        obtain ⟨rfl, R1⟩ := hcut
        clear R F d1H d2H
        have R := R1
        have F := R.1
        clear R1
        go_wp2_with fail
        refine (HVH.out _).mono ?_
        rintro e w5 ⟨rfl, hb⟩
        replace R := ((R.below hb).alloc (.cells #[.bool v, .int .u64 rh, .int .u64 rl, .int .i64 (mn + 1)] 28)).alloc (.cells #[.bool v, .int .u64 sh, .int .u64 sl, .int .i64 (mn + 1)] 28)
        replace F := R.1
        have L5 : Blk ((w5.alloc (.cells #[.bool v, .int .u64 rh, .int .u64 rl, .int .i64 (mn + 1)] 28)).alloc (.cells #[.bool v, .int .u64 sh, .int .u64 sl, .int .i64 (mn + 1)] 28)) w5.heap.size #[.bool v, .int .u64 rh, .int .u64 rl, .int .i64 (mn + 1)] 28 := (Blk.new _ _ _).alloc _
        have H5 : Blk ((w5.alloc (.cells #[.bool v, .int .u64 rh, .int .u64 rl, .int .i64 (mn + 1)] 28)).alloc (.cells #[.bool v, .int .u64 sh, .int .u64 sl, .int .i64 (mn + 1)] 28)) (w5.heap.size + 1) #[.bool v, .int .u64 sh, .int .u64 sl, .int .i64 (mn + 1)] 28 := Blk.new1 _ _ _ _
        clear hb HVH
        rcases HWH.out with ⟨Y1, Y2⟩ | ⟨Y1, Y2, Y3⟩
        · have G1 : Hid _ := Y1
          have G2 : Hid _ := Y2
          clear Y1 Y2 HWH
          go_wp2_with fail
          refine (G1.out _).mono ?_
          rintro e w6 ⟨rfl, hb⟩
          replace R := R.below hb
          replace F := R.1
          obtain ⟨a0, a1, a2, a3, a4, a5, a6, a7, a8⟩ := (L5.below hb).four
          obtain ⟨z0, z1, z2, z3, z4, z5, z6, z7, z8⟩ := (H5.below hb).four
          clear hb G1 L5 H5
          go_wp2_with fail
          refine (G2.out _).mono ?_
          rintro e w7 ⟨rfl, hb⟩
          replace R := R.below hb
          replace F := R.1
          clear hb G2
          go_wp2
          go_ret
          exact ⟨by first | rfl | simp, R.2.2.2.2.2⟩
        · have G1 : Hid _ := Y1
          have G2 : Hid _ := Y2
          have G3 : Hid _ := Y3
          clear Y1 Y2 Y3 HWH
          go_wp2_with fail
          refine (G1.out _).mono ?_
          rintro e w6 ⟨rfl, hb⟩
          replace R := R.below hb
          replace F := R.1
          have L6 := L5.below hb
          have H6 := H5.below hb
          obtain ⟨a0, a1, a2, a3, a4, a5, a6, a7, a8⟩ := L6.four
          obtain ⟨z0, z1, z2, z3, z4, z5, z6, z7, z8⟩ := H6.four
          clear hb G1 L5 H5
          go_wp2_with fail
          refine (G2.out _).mono ?_
          rintro e w7 ⟨rfl, hb⟩
          replace R := R.below hb
          replace F := R.1
          clear a0 a1 a2 a3 a4 a5 a6 a7 a8 z0 z1 z2 z3 z4 z5 z6 z7 z8
          obtain ⟨a0, a1, a2, a3, a4, a5, a6, a7, a8⟩ := (L6.below hb).four
          obtain ⟨z0, z1, z2, z3, z4, z5, z6, z7, z8⟩ := (H6.below hb).four
          clear hb G2 L6 H6
          go_wp2_with fail
          refine (G3.out _).mono ?_
          rintro e w8 ⟨rfl, hb⟩
          replace R := R.below hb
          replace F := R.1
          clear hb G3
          go_wp2
          go_ret
          exact ⟨by first | rfl | simp, R.2.2.2.2.2⟩

theorem common_walk {v u : Bool} {ph pl b qh ql c : Int} {n m : Nat} (hp : IsNum ph pl n) (hq : IsNum qh ql m) (w : World) (hL : LW w)
    (aw : ∀ w, LW w → Calls Tryz.prog 11 #[] w fun e w' => e = .returned (.bool true) ∧ Below w.heap.size w w') :
    Calls Tryz.prog 4 #[pv v ph pl b, pv u qh ql c] w fun e w' => e = .returned (.bool true) ∧ Below w.heap.size w w' := by
  cases kp : okP v n b
  · exact common_walk_no hp hq (Or.inl kp) w hL aw
  · cases kq : okP u m c
    · exact common_walk_no hp hq (Or.inr (Or.inl ⟨kp, kq⟩)) w hL aw
    · by_cases e : v = u
      · subst e
        exact common_walk_ok hp hq kp kq w hL aw
      · exact common_walk_no hp hq (Or.inr (Or.inr ⟨kp, kq, e⟩)) w hL aw
end Go.Proofs.YtmhnfgfdggjdhaaGreatDoor

/-
  The walk of CarveNumbers.
-/
import Derived.Test.YtmhnfgfdggjdhaaGreatDoorRef4b
namespace Go.Proofs.YtmhnfgfdggjdhaaGreatDoor
open Go.ChangeShapes Go.WideShapes Go.ChangeAt Go.RowKit
set_option linter.unusedVariables false
set_option linter.unusedSimpArgs false

theorem nums_start (w : World) (v : Bool) (h l b : Int) (u : Bool) (qh ql c : Int) (s : Bool) (ah al : Int) : Kn w [(w.heap.size + 1 + 1, [.bool s, .int .u64 ah, .int .u64 al], 26), (w.heap.size + 1, [.bool u, .int .u64 qh, .int .u64 ql, .int .i64 c], 28), (w.heap.size, [.bool v, .int .u64 h, .int .u64 l, .int .i64 b], 28)] (((w.alloc (.cells #[.bool v, .int .u64 h, .int .u64 l, .int .i64 b] 28)).alloc (.cells #[.bool u, .int .u64 qh, .int .u64 ql, .int .i64 c] 28)).alloc (.cells #[.bool s, .int .u64 ah, .int .u64 al] 26)) :=
  (((Kn.nil w).push rfl).push (by simp)).push (by simp)

/-- What both say of a block, and the way back. -/
theorem both_idx {v u : Bool} {h l b qh ql c : Int} {n m : Nat} (hp : IsNum h l n) (hq : IsNum qh ql m) : ∃ ih il e : Int, (∀ w', Calls Tryz.prog 36 #[pv v h l b, pv u qh ql c] w' fun e' w1 => e' = .returned (.tuple #[nv ih il, .int .i64 e]) ∧ Below w'.heap.size w' w1) ∧ (∀ w', Calls Tryz.prog 37 #[pv v h l b, pv u qh ql c] w' fun e' w1 => e' = .returned (.tuple #[nv ih il, .int .i64 e]) ∧ Below w'.heap.size w' w1) ∧ ((e = 0 ∧ ∀ w', Calls Tryz.prog 32 #[pv v h l b, .int .i64 c, nv ih il] w' fun e' w1 => e' = .returned (.tuple #[pv u qh ql c, .int .i64 0]) ∧ Below w'.heap.size w' w1) ∨ ¬ e = 0) := by
  cases kp : okP v n b
  · exact ⟨0, 0, 1, fun w' => idx_no1 (m := m) hp kp w', fun w' => ridx_no1 (m := m) hp kp w', Or.inr (by decide)⟩
  · cases kq : okP u m c
    · exact ⟨0, 0, 1, fun w' => idx_no2 hp hq kp kq w', fun w' => ridx_no2 hp hq kp kq w', Or.inr (by decide)⟩
    · cases hw : withinB u m c v n b
      · exact ⟨0, 0, 12, fun w' => idx_out hp hq kp kq hw w', fun w' => ridx_out hp hq kp kq hw w', Or.inr (by decide)⟩
      · obtain ⟨_, hbc, hh⟩ := within_parts hw
        obtain rfl := (has_parts hh).1
        obtain ⟨ih, il, hi⟩ := IsNum.ex (n := numN v n c m) (Nat.lt_of_le_of_lt (Nat.div_le_self _ _) (Nat.lt_of_le_of_lt (Nat.sub_le _ _) hq.lt))
        obtain ⟨e1, e2⟩ := (has_ends kp hp.lt).1 hh
        obtain ⟨oq, c0, c1⟩ := fitsB_parts (okP_parts kq).1
        have hc : cutB v n b c = true := by
          unfold cutB; rw [kp, decide_eq_true hbc, decide_eq_true c1]; rfl
        have lt := num_lt hc e2
        have back : blkN v n c (numN v n c m) = m := by
          unfold blkN numN
          have d1 : 2 ^ behindP v c ∣ m := Nat.dvd_of_mod_eq_zero (okP_parts kq).2
          have d2 : 2 ^ behindP v c ∣ n := Nat.dvd_of_mod_eq_zero (mod_cut hc)
          rw [Nat.div_mul_cancel (Nat.dvd_sub d1 d2)]
          omega
        exact ⟨ih, il, 0, fun w' => idx_ok hp hq kp kq hw hi w', fun w' => ridx_ok hp hq kp kq hw hi w', Or.inl ⟨rfl, fun w' => block_ok hp hi hc lt (hq.cast back.symm) w'⟩⟩

/-- What both say of an address, and the way back. -/
theorem both_nmb {v s : Bool} {h l b ah al : Int} {n a : Nat} (hp : IsNum h l n) (ha : IsNum ah al a) : ∃ kh kl g : Int, (∀ w', Calls Tryz.prog 38 #[pv v h l b, av s ah al] w' fun e' w1 => e' = .returned (.tuple #[nv kh kl, .int .i64 g]) ∧ Below w'.heap.size w' w1) ∧ (∀ w', Calls Tryz.prog 39 #[pv v h l b, av s ah al] w' fun e' w1 => e' = .returned (.tuple #[nv kh kl, .int .i64 g]) ∧ Below w'.heap.size w' w1) ∧ ((g = 0 ∧ ∀ w', Calls Tryz.prog 35 #[pv v h l b, nv kh kl] w' fun e' w1 => e' = .returned (.tuple #[av s ah al, .int .i64 0]) ∧ Below w'.heap.size w' w1) ∨ ¬ g = 0) := by
  cases kp : okP v n b
  · exact ⟨0, 0, 1, fun w' => number_arg hp kp w', fun w' => rnmb_no hp kp w', Or.inr (by decide)⟩
  · cases kh : hasB v n b s a
    · exact ⟨0, 0, 12, fun w' => number_range hp ha kp kh w', fun w' => rnmb_out hp ha kp kh w', Or.inr (by decide)⟩
    · obtain rfl := (has_parts kh).1
      obtain ⟨rh, rl, hr⟩ := IsNum.ex (n := a - n) (Nat.lt_of_le_of_lt (Nat.sub_le _ _) ha.lt)
      obtain ⟨e1, e2⟩ := (has_ends kp hp.lt).1 kh
      obtain ⟨W, hW⟩ : ∃ W, widthA v = W := ⟨_, rfl⟩
      obtain ⟨_, b0, b1⟩ := fitsB_parts (okP_parts kp).1
      have hc : cutB v n b W = true := by
        unfold cutB; rw [kp, decide_eq_true (by omega : b ≤ W), decide_eq_true (by omega : W ≤ widthA v)]; rfl
      have z : behindP v W = 0 := by unfold behindP; omega
      have e0 : numN v n W a = a - n := by unfold numN; rw [z]; simp
      have lt := num_lt hc e2
      rw [e0] at lt
      have back : blkN v n W (a - n) = a := by unfold blkN; rw [z]; omega
      exact ⟨rh, rl, 0, fun w' => number_ok hp ha kh hr w', fun w' => rnmb_ok hp ha kh hr w', Or.inl ⟨rfl, fun w' => host_any hW (fun w1 => block_ok hp hr hc lt (ha.cast back.symm) w1) w'⟩⟩

set_option maxRecDepth 100000 in
set_option maxHeartbeats 3200000 in
theorem nums_walk {v u s : Bool} {h l b qh ql c ah al : Int} {n m a : Nat} (hp : IsNum h l n) (hq : IsNum qh ql m) (ha : IsNum ah al a) (w : World) (hL : LW w)
    (aw : ∀ w, LW w → Calls Tryz.prog 29 #[] w fun e w' => e = .returned (.bool true) ∧ Below w.heap.size w w') :
    Calls Tryz.prog 7 #[pv v h l b, pv u qh ql c, av s ah al] w fun e w' => e = .returned (.bool true) ∧ Below w.heap.size w w' := by
  have hz := hL.sz
  have K := nums_start w v h l b u qh ql c s ah al
  have AW : Hid (Calls Tryz.prog 29 #[] _ _) := aw _ (hL.of K.bel hz)
  obtain ⟨ih, il, ei, I10, I20, hi⟩ := both_idx (v := v) (u := u) (b := b) (c := c) hp hq
  obtain ⟨kh, kl, eg, N10, N20, hg⟩ := both_nmb (v := v) (s := s) (b := b) hp ha
  have I1 : Hid _ := I10
  have I2 : Hid _ := I20
  have N1 : Hid _ := N10
  have N2 : Hid _ := N20
  have HI : Hid _ := hi
  have HG : Hid _ := hg
  clear hp hq ha hL aw I10 I20 N10 N20 hi hg
  go_enter Tryz.func7, Tryz.ntmps7
  go_wp2_with fail
  refine AW.out.mono ?_
  rintro e w1 ⟨rfl, hb⟩
  replace K := K.below hb
  have F := K.1
  simp only [Facts, CellsAt] at F
  clear hb AW
  go_wp2_with fail
  refine (I1.out _).mono ?_
  rintro e w2 ⟨rfl, hb⟩
  replace K := ((K.below hb).push (b := w2.heap.size) (cs := [.int .u64 ih, .int .u64 il]) (t := 24) (by simp))
  replace F := K.1
  simp only [Facts, CellsAt] at F
  clear hb I1
  go_wp2_with fail
  refine (I2.out _).mono ?_
  rintro e w3 ⟨rfl, hb⟩
  replace K := ((K.below hb).push (b := w3.heap.size) (cs := [.int .u64 ih, .int .u64 il]) (t := 24) (by simp))
  replace F := K.1
  simp only [Facts, CellsAt] at F
  clear hb I2
  go_wp2_with fail
  refine (N1.out _).mono ?_
  rintro e w4 ⟨rfl, hb⟩
  replace K := ((K.below hb).push (b := w4.heap.size) (cs := [.int .u64 kh, .int .u64 kl]) (t := 24) (by simp))
  replace F := K.1
  simp only [Facts, CellsAt] at F
  clear hb N1
  go_wp2_with fail
  refine (N2.out _).mono ?_
  rintro e w5 ⟨rfl, hb⟩
  replace K := ((K.below hb).push (b := w5.heap.size) (cs := [.int .u64 kh, .int .u64 kl]) (t := 24) (by simp))
  replace F := K.1
  simp only [Facts, CellsAt] at F
  clear hb N2
  go_upto_if 64 with fail
  go_cut [15, 16] (fun p t wc => Kn w [(w5.heap.size, [.int .u64 kh, .int .u64 kl], 24), (w4.heap.size, [.int .u64 kh, .int .u64 kl], 24), (w3.heap.size, [.int .u64 ih, .int .u64 il], 24), (w2.heap.size, [.int .u64 ih, .int .u64 il], 24), (w.heap.size + 1 + 1, [.bool s, .int .u64 ah, .int .u64 al], 26), (w.heap.size + 1, [.bool u, .int .u64 qh, .int .u64 ql, .int .i64 c], 28), (w.heap.size, [.bool v, .int .u64 h, .int .u64 l, .int .i64 b], 28)] wc)
  case first =>
    clear HG
    rcases HI.out with ⟨rfl, BK0⟩ | hne
    · have BK : Hid _ := BK0
      clear BK0 HI
      go_wp2_with fail
      refine (BK.out _).mono ?_
      rintro e w6 ⟨rfl, hb⟩
      have K6 := K.below hb
      replace K := K6.push (b := w6.heap.size) (cs := [.bool u, .int .u64 qh, .int .u64 ql, .int .i64 c]) (t := 28) (by simp)
      replace F := K.1
      simp only [Facts, CellsAt] at F
      clear hb BK K6
      go_wp2_with fail
      go_meet
      case rel => exact K.tail
    · clear HI
      go_wp2_with fail
      go_meet
      case rel => exact K
  case rest =>
    clear K F HI
    have K := hcut
    have F := K.1
    simp only [Facts, CellsAt] at F
    clear hcut
    rcases HG.out with ⟨rfl, HO0⟩ | hne
    · have HO : Hid _ := HO0
      clear HO0 HG
      go_wp2_with fail
      refine (HO.out _).mono ?_
      rintro e w7 ⟨rfl, hb⟩
      have K7 := K.below hb
      replace K := K7.push (b := w7.heap.size) (cs := [.bool s, .int .u64 ah, .int .u64 al]) (t := 26) (by simp)
      replace F := K.1
      simp only [Facts, CellsAt] at F
      have B := K.bel
      clear hb HO K7 K
      go_wp2
      go_ret
      exact ⟨by first | rfl | simp, B⟩
    · have B := K.bel
      clear HG K
      go_wp2
      go_ret
      exact ⟨by first | rfl | simp, B⟩
end Go.Proofs.YtmhnfgfdggjdhaaGreatDoor

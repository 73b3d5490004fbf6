/-
  The walk of CarveSpans.
-/
import Derived.Test.YtmhnfgfdggjdhaaGreatDoorCarve3
import Derived.Test.YtmhnfgfdggjdhaaGreatDoorCParts
import Derived.Test.YtmhnfgfdggjdhaaGreatDoorRef3f
namespace Go.Proofs.YtmhnfgfdggjdhaaGreatDoor
open Go.ChangeShapes Go.WideShapes Go.ChangeAt Go.RowKit
set_option linter.unusedVariables false
set_option linter.unusedSimpArgs false

theorem spans_start (w : World) (v : Bool) (h l b : Int) (u : Bool) (qh ql c ih il : Int) : Kn w [(w.heap.size + 1 + 1, [.int .u64 ih, .int .u64 il], 24), (w.heap.size + 1, [.bool u, .int .u64 qh, .int .u64 ql, .int .i64 c], 28), (w.heap.size, [.bool v, .int .u64 h, .int .u64 l, .int .i64 b], 28)] (((w.alloc (.cells #[.bool v, .int .u64 h, .int .u64 l, .int .i64 b] 28)).alloc (.cells #[.bool u, .int .u64 qh, .int .u64 ql, .int .i64 c] 28)).alloc (.cells #[.int .u64 ih, .int .u64 il] 24)) :=
  (((Kn.nil w).push rfl).push (by simp)).push (by simp)

set_option maxRecDepth 100000 in
set_option maxHeartbeats 1600000 in
theorem spans_a1 {v u : Bool} {h l b k qh ql c ih il : Int} {n m : Nat} (hp : IsNum h l n) (hq : IsNum qh ql m) (hc : cutB v n b k = false) (w : World) (hL : LW w)
    (aw : ∀ w, LW w → Calls Tryz.prog 29 #[] w fun e w' => e = .returned (.bool true) ∧ Below w.heap.size w w') :
    Calls Tryz.prog 9 #[pv v h l b, .int .i64 k, pv u qh ql c, nv ih il] w fun e w' => e = .returned (.bool true) ∧ Below w.heap.size w w' := by
  have hz := hL.sz
  have K := spans_start w v h l b u qh ql c ih il
  have AW : Hid (Calls Tryz.prog 29 #[] _ _) := aw _ (hL.of K.bel hz)
  have S1 : Hid (∀ w', Calls Tryz.prog 43 #[pv v h l b, .int .i64 k, pv u qh ql c] w' fun e w1 => e = .returned (.tuple #[nv 0 0, nv 0 0, .int .i64 1]) ∧ Below w'.heap.size w' w1) := fun w' => span_a1 hp hq hc w'
  have C1 : Hid (∀ w', Calls Tryz.prog 41 #[pv v h l b, .int .i64 k] w' fun e w1 => e = .returned (.bool false) ∧ Below w'.heap.size w' w1) := fun w' => hc ▸ rcuts_c hp w'
  have Q1 : Hid (True) := trivial
  have O1 : Hid (True) := trivial
  clear hp hq hc hL aw
  go_enter Tryz.func9, Tryz.ntmps9
  go_wp2_with fail
  refine AW.out.mono ?_
  rintro e w1 ⟨rfl, hb⟩
  replace K := K.below hb
  have F := K.1
  simp only [Facts, CellsAt] at F
  clear hb AW
  go_wp2_with fail
  refine (S1.out _).mono ?_
  rintro e w2 ⟨rfl, hb⟩
  replace K := (((K.below hb).push (b := w2.heap.size) (cs := [.int .u64 0, .int .u64 0]) (t := 24) (by simp)).push (b := w2.heap.size + 1) (cs := [.int .u64 0, .int .u64 0]) (t := 24) (by simp))
  replace F := K.1
  simp only [Facts, CellsAt] at F
  clear hb S1
  go_wp2_with fail
  refine (C1.out _).mono ?_
  rintro e w3 ⟨rfl, hb⟩
  replace K := ((K.below hb))
  replace F := K.1
  simp only [Facts, CellsAt] at F
  clear hb C1
  skip
  have B := K.bel
  clear Q1 O1 K
  go_wp2
  go_ret
  exact ⟨by first | rfl | simp, B⟩

set_option maxRecDepth 100000 in
set_option maxHeartbeats 1600000 in
theorem spans_a2 {v u : Bool} {h l b k qh ql c ih il : Int} {n m : Nat} (hp : IsNum h l n) (hq : IsNum qh ql m) (hc : cutB v n b k = true) (hq0 : okP u m c = false) (w : World) (hL : LW w)
    (aw : ∀ w, LW w → Calls Tryz.prog 29 #[] w fun e w' => e = .returned (.bool true) ∧ Below w.heap.size w w') :
    Calls Tryz.prog 9 #[pv v h l b, .int .i64 k, pv u qh ql c, nv ih il] w fun e w' => e = .returned (.bool true) ∧ Below w.heap.size w w' := by
  have hz := hL.sz
  have K := spans_start w v h l b u qh ql c ih il
  have AW : Hid (Calls Tryz.prog 29 #[] _ _) := aw _ (hL.of K.bel hz)
  have S1 : Hid (∀ w', Calls Tryz.prog 43 #[pv v h l b, .int .i64 k, pv u qh ql c] w' fun e w1 => e = .returned (.tuple #[nv 0 0, nv 0 0, .int .i64 1]) ∧ Below w'.heap.size w' w1) := fun w' => span_a2 hp hq hc hq0 w'
  have C1 : Hid (∀ w', Calls Tryz.prog 41 #[pv v h l b, .int .i64 k] w' fun e w1 => e = .returned (.bool true) ∧ Below w'.heap.size w' w1) := fun w' => hc ▸ rcuts_c hp w'
  have Q1 : Hid (∀ w', Calls Tryz.prog 13 #[pv u qh ql c] w' fun e w1 => e = .returned (.bool false) ∧ Below w'.heap.size w' w1) := fun w' => hq0 ▸ rpright_c hq w'
  have O1 : Hid (True) := trivial
  clear hp hq hc hL aw
  go_enter Tryz.func9, Tryz.ntmps9
  go_wp2_with fail
  refine AW.out.mono ?_
  rintro e w1 ⟨rfl, hb⟩
  replace K := K.below hb
  have F := K.1
  simp only [Facts, CellsAt] at F
  clear hb AW
  go_wp2_with fail
  refine (S1.out _).mono ?_
  rintro e w2 ⟨rfl, hb⟩
  replace K := (((K.below hb).push (b := w2.heap.size) (cs := [.int .u64 0, .int .u64 0]) (t := 24) (by simp)).push (b := w2.heap.size + 1) (cs := [.int .u64 0, .int .u64 0]) (t := 24) (by simp))
  replace F := K.1
  simp only [Facts, CellsAt] at F
  clear hb S1
  go_wp2_with fail
  refine (C1.out _).mono ?_
  rintro e w3 ⟨rfl, hb⟩
  replace K := ((K.below hb))
  replace F := K.1
  simp only [Facts, CellsAt] at F
  clear hb C1
  (go_wp2_with fail; refine (Q1.out _).mono ?_; rintro e w4 ⟨rfl, hb⟩; replace K := K.below hb; replace F := K.1; simp only [Facts, CellsAt] at F; clear hb)
  have B := K.bel
  clear Q1 O1 K
  go_wp2
  go_ret
  exact ⟨by first | rfl | simp, B⟩

set_option maxRecDepth 100000 in
set_option maxHeartbeats 1600000 in
theorem spans_ra {v u : Bool} {h l b k qh ql c ih il : Int} {n m : Nat} (hp : IsNum h l n) (hq : IsNum qh ql m) (hc : cutB v n b k = true) (hq0 : okP u m c = true) (ho : overB v n b u m c = false) (w : World) (hL : LW w)
    (aw : ∀ w, LW w → Calls Tryz.prog 29 #[] w fun e w' => e = .returned (.bool true) ∧ Below w.heap.size w w') :
    Calls Tryz.prog 9 #[pv v h l b, .int .i64 k, pv u qh ql c, nv ih il] w fun e w' => e = .returned (.bool true) ∧ Below w.heap.size w w' := by
  have hz := hL.sz
  have K := spans_start w v h l b u qh ql c ih il
  have AW : Hid (Calls Tryz.prog 29 #[] _ _) := aw _ (hL.of K.bel hz)
  have S1 : Hid (∀ w', Calls Tryz.prog 43 #[pv v h l b, .int .i64 k, pv u qh ql c] w' fun e w1 => e = .returned (.tuple #[nv 0 0, nv 0 0, .int .i64 12]) ∧ Below w'.heap.size w' w1) := fun w' => span_ra hp hq hc hq0 ho w'
  have C1 : Hid (∀ w', Calls Tryz.prog 41 #[pv v h l b, .int .i64 k] w' fun e w1 => e = .returned (.bool true) ∧ Below w'.heap.size w' w1) := fun w' => hc ▸ rcuts_c hp w'
  have Q1 : Hid (∀ w', Calls Tryz.prog 13 #[pv u qh ql c] w' fun e w1 => e = .returned (.bool true) ∧ Below w'.heap.size w' w1) := fun w' => hq0 ▸ rpright_c hq w'
  have O1 : Hid (∀ w', Calls Tryz.prog 44 #[pv v h l b, pv u qh ql c] w' fun e w1 => e = .returned (.bool false) ∧ Below w'.heap.size w' w1) := fun w' => ho ▸ rover_c hp hq w'
  clear hp hq hc hL aw
  go_enter Tryz.func9, Tryz.ntmps9
  go_wp2_with fail
  refine AW.out.mono ?_
  rintro e w1 ⟨rfl, hb⟩
  replace K := K.below hb
  have F := K.1
  simp only [Facts, CellsAt] at F
  clear hb AW
  go_wp2_with fail
  refine (S1.out _).mono ?_
  rintro e w2 ⟨rfl, hb⟩
  replace K := (((K.below hb).push (b := w2.heap.size) (cs := [.int .u64 0, .int .u64 0]) (t := 24) (by simp)).push (b := w2.heap.size + 1) (cs := [.int .u64 0, .int .u64 0]) (t := 24) (by simp))
  replace F := K.1
  simp only [Facts, CellsAt] at F
  clear hb S1
  go_wp2_with fail
  refine (C1.out _).mono ?_
  rintro e w3 ⟨rfl, hb⟩
  replace K := ((K.below hb))
  replace F := K.1
  simp only [Facts, CellsAt] at F
  clear hb C1
  (go_wp2_with fail; refine (Q1.out _).mono ?_; rintro e w4 ⟨rfl, hb⟩; replace K := K.below hb; replace F := K.1; simp only [Facts, CellsAt] at F; clear hb; go_wp2_with fail; refine (O1.out _).mono ?_; rintro e w5 ⟨rfl, hb⟩; replace K := K.below hb; replace F := K.1; simp only [Facts, CellsAt] at F; clear hb)
  have B := K.bel
  clear Q1 O1 K
  go_wp2
  go_ret
  exact ⟨by first | rfl | simp, B⟩

/-- The ends of what both share. -/
theorem span_ends {v : Bool} {n m : Nat} {b c k : Int} (hc : cutB v n b k = true) (hq : okP v m c = true) (ho : overB v n b v m c = true) (hn : n < 340282366920938463463374607431768211456) (hm : m < 340282366920938463463374607431768211456) :
    (withinB v n b v m c = true ∧ (∀ x, n ≤ x → x ≤ lastN v n b → ((n ≤ x ∧ x ≤ lastN v n b) ↔ (m ≤ x ∧ x ≤ lastN v m c)))) ∨ (withinB v n b v m c = false ∧ n ≤ m ∧ lastN v m c ≤ lastN v n b) := by
  have kp := (cutB_parts hc).1
  have kl {x y : Nat} {d e : Int} (hx : okP v x d = true) (hy : okP v y e = true) (xl : x < 340282366920938463463374607431768211456) (yl : y < 340282366920938463463374607431768211456) (hw : withinB v x d v y e = true) : y ≤ x ∧ lastN v x d ≤ lastN v y e := by
    have p := pow_pos2 (behindP v d)
    have h1 := (has_ends hy yl).1 (within_parts hw).2.2
    have h2 : hasB v x d v (lastN v x d) = true := (has_ends hx xl).2 ⟨by unfold lastN; omega, Nat.le_refl _⟩
    have h3 := (has_ends hy yl).1 (within_has hw h2)
    exact ⟨h1.1, h3.2⟩
  cases hw : withinB v n b v m c
  · have h2 : withinB v m c v n b = true := by
      unfold overB at ho
      rw [hw, Bool.false_or] at ho
      exact ho
    exact Or.inr ⟨rfl, kl hq kp hm hn h2⟩
  · obtain ⟨h1, h2⟩ := kl kp hq hn hm hw
    refine Or.inl ⟨rfl, fun x x1 x2 => ?_⟩
    constructor
    · intro _
      omega
    · intro _
      exact ⟨x1, x2⟩

theorem num_mono {v : Bool} {n s t : Nat} {k : Int} (h : s ≤ t) : numN v n k s ≤ numN v n k t := Nat.div_le_div_right (by omega)

set_option maxRecDepth 100000 in
set_option maxHeartbeats 3200000 in
theorem spans_ok {v : Bool} {h l b k qh ql c ih il fh fl gh gl : Int} {n m i s t : Nat} (hp : IsNum h l n) (hq : IsNum qh ql m) (hi : IsNum ih il i) (hc : cutB v n b k = true) (hq0 : okP v m c = true) (ho : overB v n b v m c = true) (hs : n ≤ s) (hst : s ≤ t) (hx : ∀ x, n ≤ x → x ≤ lastN v n b → ((s ≤ x ∧ x ≤ t) ↔ (m ≤ x ∧ x ≤ lastN v m c))) (ht : t ≤ lastN v n b) (hf : IsNum fh fl (numN v n k s)) (hg : IsNum gh gl (numN v n k t))
    (S1 : Hid (∀ w', Calls Tryz.prog 43 #[pv v h l b, .int .i64 k, pv v qh ql c] w' fun e w1 => e = .returned (.tuple #[nv fh fl, nv gh gl, .int .i64 0]) ∧ Below w'.heap.size w' w1)) (w : World) (hL : LW w)
    (aw : ∀ w, LW w → Calls Tryz.prog 29 #[] w fun e w' => e = .returned (.bool true) ∧ Below w.heap.size w w') :
    Calls Tryz.prog 9 #[pv v h l b, .int .i64 k, pv v qh ql c, nv ih il] w fun e w' => e = .returned (.bool true) ∧ Below w.heap.size w w' := by
  have hz := hL.sz
  have K := spans_start w v h l b v qh ql c ih il
  have AW : Hid (Calls Tryz.prog 29 #[] _ _) := aw _ (hL.of K.bel hz)
  have C1 : Hid (∀ w', Calls Tryz.prog 41 #[pv v h l b, .int .i64 k] w' fun e w1 => e = .returned (.bool true) ∧ Below w'.heap.size w' w1) := fun w' => hc ▸ rcuts_c hp w'
  have Q1 : Hid (∀ w', Calls Tryz.prog 13 #[pv v qh ql c] w' fun e w1 => e = .returned (.bool true) ∧ Below w'.heap.size w' w1) := fun w' => hq0 ▸ rpright_c hq w'
  have O1 : Hid (∀ w', Calls Tryz.prog 44 #[pv v h l b, pv v qh ql c] w' fun e w1 => e = .returned (.bool true) ∧ Below w'.heap.size w' w1) := fun w' => ho ▸ rover_c hp hq w'
  have jf := num_lt hc (Nat.le_trans hst ht)
  have jg := num_lt hc ht
  have mono := num_mono (v := v) (n := n) (k := k) hst
  obtain ⟨m1, hm1⟩ : ∃ m1 : Int, m1 = cmpI ((numN v n k s : Nat) : Int) ((numN v n k t : Nat) : Int) := ⟨_, rfl⟩
  have N1 : Hid (∀ w', Calls Tryz.prog 40 #[nv fh fl, nv gh gl] w' fun e w1 => e = .returned (.int .i64 m1) ∧ Below w'.heap.size w' w1) := fun w' => num_cmp hf hg hm1 w'
  have hm1' : ¬ 0 < m1 := by
    have := cmpI_le.2 (Int.ofNat_le.2 mono)
    omega
  obtain ⟨xh, xl, nx⟩ := IsNum.ex (blk_ok hc hp.lt jf).2
  obtain ⟨yh, yl, ny⟩ := IsNum.ex (blk_ok hc hp.lt jg).2
  have BX : Hid (∀ w', Calls Tryz.prog 32 #[pv v h l b, .int .i64 k, nv fh fl] w' fun e w1 => e = .returned (.tuple #[pv v xh xl k, .int .i64 0]) ∧ Below w'.heap.size w' w1) := fun w' => block_ok hp hf hc jf nx w'
  have BY : Hid (∀ w', Calls Tryz.prog 32 #[pv v h l b, .int .i64 k, nv gh gl] w' fun e w1 => e = .returned (.tuple #[pv v yh yl k, .int .i64 0]) ∧ Below w'.heap.size w' w1) := fun w' => block_ok hp hg hc jg ny w'
  have o1 : overB v (blkN v n k (numN v n k s)) k v m c = true := by
    rw [span_is hc hq0 hp.lt hq.lt jf hs hst hx ht, decide_eq_true (Nat.le_refl _), decide_eq_true mono]; rfl
  have o2 : overB v (blkN v n k (numN v n k t)) k v m c = true := by
    rw [span_is hc hq0 hp.lt hq.lt jg hs hst hx ht, decide_eq_true (Nat.le_refl _), decide_eq_true mono]; rfl
  have OX : Hid (∀ w', Calls Tryz.prog 20 #[pv v xh xl k, pv v qh ql c] w' fun e w1 => e = .returned (.bool true) ∧ Below w'.heap.size w' w1) := fun w' => o1 ▸ over_c nx hq w'
  have OY : Hid (∀ w', Calls Tryz.prog 20 #[pv v yh yl k, pv v qh ql c] w' fun e w1 => e = .returned (.bool true) ∧ Below w'.heap.size w' w1) := fun w' => o2 ▸ over_c ny hq w'
  have HZ : Hid ((¬ i < 2 ^ (k - b).toNat ∧ (∀ w', Calls Tryz.prog 32 #[pv v h l b, .int .i64 k, nv ih il] w' fun e w1 => e = .returned (.tuple #[pv false 0 0 0, .int .i64 12]) ∧ Below w'.heap.size w' w1)) ∨ ∃ zh zl : Int, (∀ w', Calls Tryz.prog 32 #[pv v h l b, .int .i64 k, nv ih il] w' fun e w1 => e = .returned (.tuple #[pv v zh zl k, .int .i64 0]) ∧ Below w'.heap.size w' w1) ∧ ∃ m2 m3 : Int, (∀ w', Calls Tryz.prog 40 #[nv fh fl, nv ih il] w' fun e w1 => e = .returned (.int .i64 m2) ∧ Below w'.heap.size w' w1) ∧ (∀ w', Calls Tryz.prog 40 #[nv ih il, nv gh gl] w' fun e w1 => e = .returned (.int .i64 m3) ∧ Below w'.heap.size w' w1) ∧ (∀ w', Calls Tryz.prog 20 #[pv v zh zl k, pv v qh ql c] w' fun e w1 => e = .returned (.bool (decide (m2 ≤ 0) && decide (m3 ≤ 0))) ∧ Below w'.heap.size w' w1)) := by
    by_cases ci : i < 2 ^ (k - b).toNat
    · obtain ⟨zh, zl, nz⟩ := IsNum.ex (blk_ok hc hp.lt ci).2
      refine Or.inr ⟨zh, zl, fun w' => block_ok hp hi hc ci nz w', _, _, fun w' => num_cmp hf hi rfl w', fun w' => num_cmp hi hg rfl w', fun w' => ?_⟩
      have o3 := span_is hc hq0 hp.lt hq.lt ci hs hst hx ht
      have e1 : (decide (cmpI ((numN v n k s : Nat) : Int) (i : Int) ≤ 0) && decide (cmpI (i : Int) ((numN v n k t : Nat) : Int) ≤ 0)) = (decide (numN v n k s ≤ i) && decide (i ≤ numN v n k t)) := by
        simp only [cmpI_le, Int.ofNat_le]
      rw [e1, ← o3]
      exact over_c nz hq w'
    · exact Or.inl ⟨ci, fun w' => block_range hp hi hc ci w'⟩
  clear hp hq hi hc hq0 ho hs hst hx ht hf hg jf jg mono hm1 nx ny o1 o2 hL aw
  go_enter Tryz.func9, Tryz.ntmps9
  go_wp2_with fail
  refine AW.out.mono ?_
  rintro e w1 ⟨rfl, hb⟩
  replace K := K.below hb
  have F := K.1
  simp only [Facts, CellsAt] at F
  clear hb AW
  go_wp2_with fail
  refine (S1.out _).mono ?_
  rintro e w2 ⟨rfl, hb⟩
  replace K := (((K.below hb).push (b := w2.heap.size) (cs := [.int .u64 fh, .int .u64 fl]) (t := 24) (by simp)).push (b := w2.heap.size + 1) (cs := [.int .u64 gh, .int .u64 gl]) (t := 24) (by simp))
  replace F := K.1
  simp only [Facts, CellsAt] at F
  clear hb S1
  go_wp2_with fail
  refine (C1.out _).mono ?_
  rintro e w3 ⟨rfl, hb⟩
  replace K := ((K.below hb))
  replace F := K.1
  simp only [Facts, CellsAt] at F
  clear hb C1
  go_wp2_with fail
  refine (Q1.out _).mono ?_
  rintro e w4 ⟨rfl, hb⟩
  replace K := ((K.below hb))
  replace F := K.1
  simp only [Facts, CellsAt] at F
  clear hb Q1
  go_wp2_with fail
  refine (O1.out _).mono ?_
  rintro e w5 ⟨rfl, hb⟩
  replace K := ((K.below hb))
  replace F := K.1
  simp only [Facts, CellsAt] at F
  clear hb O1
  go_wp2_with fail
  refine (N1.out _).mono ?_
  rintro e w5b ⟨rfl, hb⟩
  replace K := ((K.below hb))
  replace F := K.1
  simp only [Facts, CellsAt] at F
  clear hb N1
  go_wp2_with fail
  refine (BX.out _).mono ?_
  rintro e w6 ⟨rfl, hb⟩
  replace K := ((K.below hb).push (b := w6.heap.size) (cs := [.bool v, .int .u64 xh, .int .u64 xl, .int .i64 k]) (t := 28) (by simp))
  replace F := K.1
  simp only [Facts, CellsAt] at F
  clear hb BX
  go_wp2_with fail
  refine (BY.out _).mono ?_
  rintro e w7 ⟨rfl, hb⟩
  replace K := ((K.below hb).push (b := w7.heap.size) (cs := [.bool v, .int .u64 yh, .int .u64 yl, .int .i64 k]) (t := 28) (by simp))
  replace F := K.1
  simp only [Facts, CellsAt] at F
  clear hb BY
  go_wp2_with fail
  refine (OX.out _).mono ?_
  rintro e w8 ⟨rfl, hb⟩
  replace K := ((K.below hb))
  replace F := K.1
  simp only [Facts, CellsAt] at F
  clear hb OX
  go_wp2_with fail
  refine (OY.out _).mono ?_
  rintro e w8b ⟨rfl, hb⟩
  replace K := ((K.below hb))
  replace F := K.1
  simp only [Facts, CellsAt] at F
  clear hb OY
  rcases HZ.out with ⟨_, BZ0⟩ | ⟨zh, zl, BZ0, m2, m3, NF0, NT0, OZ0⟩
  · have BZ : Hid _ := BZ0
    clear HZ BZ0
    go_wp2_with fail
    refine (BZ.out _).mono ?_
    rintro e w9 ⟨rfl, hb⟩
    replace K := ((K.below hb).alloc (.cells #[.bool false, .int .u64 0, .int .u64 0, .int .i64 0] 28))
    replace F := K.1
    simp only [Facts, CellsAt] at F
    clear hb BZ
    have B := K.bel
    clear K
    go_wp2
    go_ret
    exact ⟨by first | rfl | simp, B⟩
  · have BZ : Hid _ := BZ0
    have NF : Hid _ := NF0
    have NT : Hid _ := NT0
    have OZ1 : Hid _ := OZ0
    clear HZ BZ0 NF0 NT0 OZ0
    go_wp2_with fail
    refine (BZ.out _).mono ?_
    rintro e w9 ⟨rfl, hb⟩
    replace K := ((K.below hb).push (b := w9.heap.size) (cs := [.bool v, .int .u64 zh, .int .u64 zl, .int .i64 k]) (t := 28) (by simp))
    replace F := K.1
    simp only [Facts, CellsAt] at F
    clear hb BZ
    by_cases c1 : m2 ≤ 0
    · by_cases c2 : m3 ≤ 0
      · have OZ : Hid (∀ w', Calls Tryz.prog 20 #[pv v zh zl k, pv v qh ql c] w' fun e w1 => e = .returned (.bool true) ∧ Below w'.heap.size w' w1) := fun w' => by
          have := OZ1.out w'; rw [decide_eq_true c1, decide_eq_true c2] at this; exact this
        clear OZ1 F
        go_wp2_with fail
        refine wp_region_held_drew (S := (Kn w [(w9.heap.size, [.bool v, .int .u64 zh, .int .u64 zl, .int .i64 k], 28), (w7.heap.size, [.bool v, .int .u64 yh, .int .u64 yl, .int .i64 k], 28), (w6.heap.size, [.bool v, .int .u64 xh, .int .u64 xl, .int .i64 k], 28), (w2.heap.size + 1, [.int .u64 gh, .int .u64 gl], 24), (w2.heap.size, [.int .u64 fh, .int .u64 fl], 24), (w.heap.size + 1 + 1, [.int .u64 ih, .int .u64 il], 24), (w.heap.size + 1, [.bool v, .int .u64 qh, .int .u64 ql, .int .i64 c], 28), (w.heap.size, [.bool v, .int .u64 h, .int .u64 l, .int .i64 b], 28)])) (by kernel_rfl) ?hS100 (fun hHeld => ?rest100)
        case hS100 => (first | with_reducible exact K.drew | with_reducible exact hHeld.below hb4 | with_reducible exact hHeld.below hb5 | with_reducible exact hHeld.below hb8)
        refine wpAnyH_take (i := 0) (oi := _) (v := ?v101) (List.getElem?_toArray.trans rfl) (by kernel_rfl) (by kernel_rfl) (by kernel_rfl) (fun _ _ _ h => h) (Or.inl ⟨by rfl, ?hy101⟩) (by assumption) ?rest101
        case hy101 => (intro wq hSw; (try simp only [Two, Kn, Facts, CellsAt] at hSw); go_simp; try with_reducible rfl)
        try simp only [Act.put, List.setIfInBounds_toArray, List.set_cons_zero, List.set_cons_succ]
        refine wpAnyH_take (i := 1) (oi := _) (v := ?v102) (List.getElem?_toArray.trans rfl) (by kernel_rfl) (by kernel_rfl) (by kernel_rfl) (fun _ _ _ h => h) (Or.inl ⟨by rfl, ?hy102⟩) (by assumption) ?rest102
        case hy102 => (intro wq hSw; (try simp only [Two, Kn, Facts, CellsAt] at hSw); go_simp; try with_reducible rfl)
        try simp only [Act.put, List.setIfInBounds_toArray, List.set_cons_zero, List.set_cons_succ]
        refine wpAnyH_take (i := 3) (oi := _) (v := ?v103) (List.getElem?_toArray.trans rfl) (by kernel_rfl) (by kernel_rfl) (by kernel_rfl) (fun _ _ _ h => h) (Or.inl ⟨by rfl, ?hy103⟩) (by assumption) ?rest103
        case hy103 => (intro wq hSw; (try simp only [Two, Kn, Facts, CellsAt] at hSw); go_simp; try with_reducible rfl)
        try simp only [Act.put, List.setIfInBounds_toArray, List.set_cons_zero, List.set_cons_succ]
        refine wpAnyH_take (i := 4) (oi := _) (v := ?v104) (List.getElem?_toArray.trans rfl) (by kernel_rfl) (by kernel_rfl) (by kernel_rfl) (fun _ _ _ h => h) (Or.inl ⟨by rfl, ?hy104⟩) (by assumption) ?rest104
        case hy104 => (intro wq hSw; (try simp only [Two, Kn, Facts, CellsAt] at hSw); go_simp; try with_reducible rfl)
        try simp only [Act.put, List.setIfInBounds_toArray, List.set_cons_zero, List.set_cons_succ]
        refine wpAnyH_ready (rs := [2]) (by kernel_rfl) (by simp) ?rdy105
        refine AllReadyH.cons (List.getElem?_toArray.trans rfl) (fun K hK => ?stp105) AllReadyH.nil
        go_simp
        go_wp2_with fail
        (refine (OZ.out _).mono ?_; rintro e w10 ⟨rfl, hb4⟩)
        go_wp2_with fail
        refine hK.out _ _ ?hSn105 (fun hHeld2 => ?rest105)
        case hSn105 => (first | with_reducible exact K.drew | with_reducible exact hHeld.below hb4 | with_reducible exact hHeld.below hb5 | with_reducible exact hHeld.below hb8)
        clear hK K hHeld
        have hHeld := hHeld2
        clear hHeld2
        try simp only [Act.put, List.setIfInBounds_toArray, List.set_cons_zero, List.set_cons_succ]
        refine wpAnyH_ready (rs := [5]) (by kernel_rfl) (by simp) ?rdy106
        refine AllReadyH.cons (List.getElem?_toArray.trans rfl) (fun K hK => ?stp106) AllReadyH.nil
        go_simp
        go_wp2_with fail
        (refine (NF.out _).mono ?_; rintro e w11 ⟨rfl, hb5⟩)
        go_wp2_with fail
        refine hK.out _ _ ?hSn106 (fun hHeld2 => ?rest106)
        case hSn106 => (first | with_reducible exact K.drew | with_reducible exact hHeld.below hb4 | with_reducible exact hHeld.below hb5 | with_reducible exact hHeld.below hb8)
        clear hK K hHeld
        have hHeld := hHeld2
        clear hHeld2
        try simp only [Act.put, List.setIfInBounds_toArray, List.set_cons_zero, List.set_cons_succ]
        refine wpAnyH_take (i := 6) (oi := _) (v := (Value.bool true)) (List.getElem?_toArray.trans rfl) (by kernel_rfl) (by kernel_rfl) (by kernel_rfl) (fun _ _ _ h => h) (Or.inl ⟨by rfl, ?hy107⟩) (by assumption) ?rest107
        case hy107 => (intro wq hSw; (try simp only [Two, Kn, Facts, CellsAt] at hSw); go_simp; (all_goals (first | rfl | simp [*])))
        try simp only [Act.put, List.setIfInBounds_toArray, List.set_cons_zero, List.set_cons_succ]
        refine wpAnyH_take (i := 7) (oi := _) (v := ?v108) (List.getElem?_toArray.trans rfl) (by kernel_rfl) (by kernel_rfl) (by kernel_rfl) (fun _ _ _ h => h) (Or.inl ⟨by rfl, ?hy108⟩) (by assumption) ?rest108
        case hy108 => (intro wq hSw; (try simp only [Two, Kn, Facts, CellsAt] at hSw); go_simp; try with_reducible rfl)
        try simp only [Act.put, List.setIfInBounds_toArray, List.set_cons_zero, List.set_cons_succ]
        refine wpAnyH_take (i := 8) (oi := _) (v := ?v109) (List.getElem?_toArray.trans rfl) (by kernel_rfl) (by kernel_rfl) (by kernel_rfl) (fun _ _ _ h => h) (Or.inl ⟨by rfl, ?hy109⟩) (by assumption) ?rest109
        case hy109 => (intro wq hSw; (try simp only [Two, Kn, Facts, CellsAt] at hSw); go_simp; try with_reducible rfl)
        try simp only [Act.put, List.setIfInBounds_toArray, List.set_cons_zero, List.set_cons_succ]
        refine wpAnyH_take (i := 9) (oi := _) (v := ?v110) (List.getElem?_toArray.trans rfl) (by kernel_rfl) (by kernel_rfl) (by kernel_rfl) (fun _ _ _ h => h) (Or.inl ⟨by rfl, ?hy110⟩) (by assumption) ?rest110
        case hy110 => (intro wq hSw; (try simp only [Two, Kn, Facts, CellsAt] at hSw); go_simp; try with_reducible rfl)
        try simp only [Act.put, List.setIfInBounds_toArray, List.set_cons_zero, List.set_cons_succ]
        refine wpAnyH_ready (rs := [10]) (by kernel_rfl) (by simp) ?rdy111
        refine AllReadyH.cons (List.getElem?_toArray.trans rfl) (fun K hK => ?stp111) AllReadyH.nil
        go_simp
        go_wp2_with fail
        (refine (NT.out _).mono ?_; rintro e w12 ⟨rfl, hb8⟩)
        go_wp2_with fail
        refine hK.out _ _ ?hSn111 (fun hHeld2 => ?rest111)
        case hSn111 => (first | with_reducible exact K.drew | with_reducible exact hHeld.below hb4 | with_reducible exact hHeld.below hb5 | with_reducible exact hHeld.below hb8)
        clear hK K hHeld
        have hHeld := hHeld2
        clear hHeld2
        try simp only [Act.put, List.setIfInBounds_toArray, List.set_cons_zero, List.set_cons_succ]
        refine wpAnyH_take (i := 11) (oi := _) (v := (Value.bool true)) (List.getElem?_toArray.trans rfl) (by kernel_rfl) (by kernel_rfl) (by kernel_rfl) (fun _ _ _ h => h) (Or.inl ⟨by rfl, ?hy112⟩) (by assumption) ?rest112
        case hy112 => (intro wq hSw; (try simp only [Two, Kn, Facts, CellsAt] at hSw); go_simp; (all_goals (first | rfl | simp [*])))
        try simp only [Act.put, List.setIfInBounds_toArray, List.set_cons_zero, List.set_cons_succ]
        refine wpAnyH_take (i := 12) (oi := _) (v := ?v113) (List.getElem?_toArray.trans rfl) (by kernel_rfl) (by kernel_rfl) (by kernel_rfl) (fun _ _ _ h => h) (Or.inl ⟨by rfl, ?hy113⟩) (by assumption) ?rest113
        case hy113 => (intro wq hSw; (try simp only [Two, Kn, Facts, CellsAt] at hSw); go_simp; try with_reducible rfl)
        try simp only [Act.put, List.setIfInBounds_toArray, List.set_cons_zero, List.set_cons_succ]
        refine wpAnyH_take (i := 13) (oi := _) (v := ?v114) (List.getElem?_toArray.trans rfl) (by kernel_rfl) (by kernel_rfl) (by kernel_rfl) (fun _ _ _ h => h) (Or.inl ⟨by rfl, ?hy114⟩) (by assumption) ?rest114
        case hy114 => (intro wq hSw; (try simp only [Two, Kn, Facts, CellsAt] at hSw); go_simp; try with_reducible rfl)
        try simp only [Act.put, List.setIfInBounds_toArray, List.set_cons_zero, List.set_cons_succ]
        refine wpAnyH_take (i := 14) (oi := _) (v := ?v115) (List.getElem?_toArray.trans rfl) (by kernel_rfl) (by kernel_rfl) (by kernel_rfl) (fun _ _ _ h => h) (Or.inl ⟨by rfl, ?hy115⟩) (by assumption) ?rest115
        case hy115 => (intro wq hSw; (try simp only [Two, Kn, Facts, CellsAt] at hSw); go_simp; try with_reducible rfl)
        try simp only [Act.put, List.setIfInBounds_toArray, List.set_cons_zero, List.set_cons_succ]
        refine wpAnyH_done (by kernel_rfl) ?fin100 _
        have B := hHeld.bel
        clear hHeld K
        go_wp2
        go_ret
        exact ⟨by first | rfl | simp, B⟩
      · have OZ : Hid (∀ w', Calls Tryz.prog 20 #[pv v zh zl k, pv v qh ql c] w' fun e w1 => e = .returned (.bool false) ∧ Below w'.heap.size w' w1) := fun w' => by
          have := OZ1.out w'; rw [decide_eq_true c1, decide_eq_false c2] at this; exact this
        clear OZ1 F
        go_wp2_with fail
        refine wp_region_held_drew (S := (Kn w [(w9.heap.size, [.bool v, .int .u64 zh, .int .u64 zl, .int .i64 k], 28), (w7.heap.size, [.bool v, .int .u64 yh, .int .u64 yl, .int .i64 k], 28), (w6.heap.size, [.bool v, .int .u64 xh, .int .u64 xl, .int .i64 k], 28), (w2.heap.size + 1, [.int .u64 gh, .int .u64 gl], 24), (w2.heap.size, [.int .u64 fh, .int .u64 fl], 24), (w.heap.size + 1 + 1, [.int .u64 ih, .int .u64 il], 24), (w.heap.size + 1, [.bool v, .int .u64 qh, .int .u64 ql, .int .i64 c], 28), (w.heap.size, [.bool v, .int .u64 h, .int .u64 l, .int .i64 b], 28)])) (by kernel_rfl) ?hS200 (fun hHeld => ?rest200)
        case hS200 => (first | with_reducible exact K.drew | with_reducible exact hHeld.below hb4 | with_reducible exact hHeld.below hb5 | with_reducible exact hHeld.below hb8)
        refine wpAnyH_take (i := 0) (oi := _) (v := ?v201) (List.getElem?_toArray.trans rfl) (by kernel_rfl) (by kernel_rfl) (by kernel_rfl) (fun _ _ _ h => h) (Or.inl ⟨by rfl, ?hy201⟩) (by assumption) ?rest201
        case hy201 => (intro wq hSw; (try simp only [Two, Kn, Facts, CellsAt] at hSw); go_simp; try with_reducible rfl)
        try simp only [Act.put, List.setIfInBounds_toArray, List.set_cons_zero, List.set_cons_succ]
        refine wpAnyH_take (i := 1) (oi := _) (v := ?v202) (List.getElem?_toArray.trans rfl) (by kernel_rfl) (by kernel_rfl) (by kernel_rfl) (fun _ _ _ h => h) (Or.inl ⟨by rfl, ?hy202⟩) (by assumption) ?rest202
        case hy202 => (intro wq hSw; (try simp only [Two, Kn, Facts, CellsAt] at hSw); go_simp; try with_reducible rfl)
        try simp only [Act.put, List.setIfInBounds_toArray, List.set_cons_zero, List.set_cons_succ]
        refine wpAnyH_take (i := 3) (oi := _) (v := ?v203) (List.getElem?_toArray.trans rfl) (by kernel_rfl) (by kernel_rfl) (by kernel_rfl) (fun _ _ _ h => h) (Or.inl ⟨by rfl, ?hy203⟩) (by assumption) ?rest203
        case hy203 => (intro wq hSw; (try simp only [Two, Kn, Facts, CellsAt] at hSw); go_simp; try with_reducible rfl)
        try simp only [Act.put, List.setIfInBounds_toArray, List.set_cons_zero, List.set_cons_succ]
        refine wpAnyH_take (i := 4) (oi := _) (v := ?v204) (List.getElem?_toArray.trans rfl) (by kernel_rfl) (by kernel_rfl) (by kernel_rfl) (fun _ _ _ h => h) (Or.inl ⟨by rfl, ?hy204⟩) (by assumption) ?rest204
        case hy204 => (intro wq hSw; (try simp only [Two, Kn, Facts, CellsAt] at hSw); go_simp; try with_reducible rfl)
        try simp only [Act.put, List.setIfInBounds_toArray, List.set_cons_zero, List.set_cons_succ]
        refine wpAnyH_ready (rs := [2]) (by kernel_rfl) (by simp) ?rdy205
        refine AllReadyH.cons (List.getElem?_toArray.trans rfl) (fun K hK => ?stp205) AllReadyH.nil
        go_simp
        go_wp2_with fail
        (refine (OZ.out _).mono ?_; rintro e w10 ⟨rfl, hb4⟩)
        go_wp2_with fail
        refine hK.out _ _ ?hSn205 (fun hHeld2 => ?rest205)
        case hSn205 => (first | with_reducible exact K.drew | with_reducible exact hHeld.below hb4 | with_reducible exact hHeld.below hb5 | with_reducible exact hHeld.below hb8)
        clear hK K hHeld
        have hHeld := hHeld2
        clear hHeld2
        try simp only [Act.put, List.setIfInBounds_toArray, List.set_cons_zero, List.set_cons_succ]
        refine wpAnyH_ready (rs := [5]) (by kernel_rfl) (by simp) ?rdy206
        refine AllReadyH.cons (List.getElem?_toArray.trans rfl) (fun K hK => ?stp206) AllReadyH.nil
        go_simp
        go_wp2_with fail
        (refine (NF.out _).mono ?_; rintro e w11 ⟨rfl, hb5⟩)
        go_wp2_with fail
        refine hK.out _ _ ?hSn206 (fun hHeld2 => ?rest206)
        case hSn206 => (first | with_reducible exact K.drew | with_reducible exact hHeld.below hb4 | with_reducible exact hHeld.below hb5 | with_reducible exact hHeld.below hb8)
        clear hK K hHeld
        have hHeld := hHeld2
        clear hHeld2
        try simp only [Act.put, List.setIfInBounds_toArray, List.set_cons_zero, List.set_cons_succ]
        refine wpAnyH_take (i := 6) (oi := _) (v := (Value.bool true)) (List.getElem?_toArray.trans rfl) (by kernel_rfl) (by kernel_rfl) (by kernel_rfl) (fun _ _ _ h => h) (Or.inl ⟨by rfl, ?hy207⟩) (by assumption) ?rest207
        case hy207 => (intro wq hSw; (try simp only [Two, Kn, Facts, CellsAt] at hSw); go_simp; (all_goals (first | rfl | simp [*])))
        try simp only [Act.put, List.setIfInBounds_toArray, List.set_cons_zero, List.set_cons_succ]
        refine wpAnyH_take (i := 7) (oi := _) (v := ?v208) (List.getElem?_toArray.trans rfl) (by kernel_rfl) (by kernel_rfl) (by kernel_rfl) (fun _ _ _ h => h) (Or.inl ⟨by rfl, ?hy208⟩) (by assumption) ?rest208
        case hy208 => (intro wq hSw; (try simp only [Two, Kn, Facts, CellsAt] at hSw); go_simp; try with_reducible rfl)
        try simp only [Act.put, List.setIfInBounds_toArray, List.set_cons_zero, List.set_cons_succ]
        refine wpAnyH_take (i := 8) (oi := _) (v := ?v209) (List.getElem?_toArray.trans rfl) (by kernel_rfl) (by kernel_rfl) (by kernel_rfl) (fun _ _ _ h => h) (Or.inl ⟨by rfl, ?hy209⟩) (by assumption) ?rest209
        case hy209 => (intro wq hSw; (try simp only [Two, Kn, Facts, CellsAt] at hSw); go_simp; try with_reducible rfl)
        try simp only [Act.put, List.setIfInBounds_toArray, List.set_cons_zero, List.set_cons_succ]
        refine wpAnyH_take (i := 9) (oi := _) (v := ?v210) (List.getElem?_toArray.trans rfl) (by kernel_rfl) (by kernel_rfl) (by kernel_rfl) (fun _ _ _ h => h) (Or.inl ⟨by rfl, ?hy210⟩) (by assumption) ?rest210
        case hy210 => (intro wq hSw; (try simp only [Two, Kn, Facts, CellsAt] at hSw); go_simp; try with_reducible rfl)
        try simp only [Act.put, List.setIfInBounds_toArray, List.set_cons_zero, List.set_cons_succ]
        refine wpAnyH_ready (rs := [10]) (by kernel_rfl) (by simp) ?rdy211
        refine AllReadyH.cons (List.getElem?_toArray.trans rfl) (fun K hK => ?stp211) AllReadyH.nil
        go_simp
        go_wp2_with fail
        (refine (NT.out _).mono ?_; rintro e w12 ⟨rfl, hb8⟩)
        go_wp2_with fail
        refine hK.out _ _ ?hSn211 (fun hHeld2 => ?rest211)
        case hSn211 => (first | with_reducible exact K.drew | with_reducible exact hHeld.below hb4 | with_reducible exact hHeld.below hb5 | with_reducible exact hHeld.below hb8)
        clear hK K hHeld
        have hHeld := hHeld2
        clear hHeld2
        try simp only [Act.put, List.setIfInBounds_toArray, List.set_cons_zero, List.set_cons_succ]
        refine wpAnyH_take (i := 11) (oi := _) (v := (Value.bool false)) (List.getElem?_toArray.trans rfl) (by kernel_rfl) (by kernel_rfl) (by kernel_rfl) (fun _ _ _ h => h) (Or.inl ⟨by rfl, ?hy212⟩) (by assumption) ?rest212
        case hy212 => (intro wq hSw; (try simp only [Two, Kn, Facts, CellsAt] at hSw); go_simp; (all_goals (first | rfl | simp [*])))
        try simp only [Act.put, List.setIfInBounds_toArray, List.set_cons_zero, List.set_cons_succ]
        refine wpAnyH_take (i := 12) (oi := _) (v := ?v213) (List.getElem?_toArray.trans rfl) (by kernel_rfl) (by kernel_rfl) (by kernel_rfl) (fun _ _ _ h => h) (Or.inl ⟨by rfl, ?hy213⟩) (by assumption) ?rest213
        case hy213 => (intro wq hSw; (try simp only [Two, Kn, Facts, CellsAt] at hSw); go_simp; try with_reducible rfl)
        try simp only [Act.put, List.setIfInBounds_toArray, List.set_cons_zero, List.set_cons_succ]
        refine wpAnyH_take (i := 13) (oi := _) (v := ?v214) (List.getElem?_toArray.trans rfl) (by kernel_rfl) (by kernel_rfl) (by kernel_rfl) (fun _ _ _ h => h) (Or.inl ⟨by rfl, ?hy214⟩) (by assumption) ?rest214
        case hy214 => (intro wq hSw; (try simp only [Two, Kn, Facts, CellsAt] at hSw); go_simp; try with_reducible rfl)
        try simp only [Act.put, List.setIfInBounds_toArray, List.set_cons_zero, List.set_cons_succ]
        refine wpAnyH_take (i := 14) (oi := _) (v := ?v215) (List.getElem?_toArray.trans rfl) (by kernel_rfl) (by kernel_rfl) (by kernel_rfl) (fun _ _ _ h => h) (Or.inl ⟨by rfl, ?hy215⟩) (by assumption) ?rest215
        case hy215 => (intro wq hSw; (try simp only [Two, Kn, Facts, CellsAt] at hSw); go_simp; try with_reducible rfl)
        try simp only [Act.put, List.setIfInBounds_toArray, List.set_cons_zero, List.set_cons_succ]
        refine wpAnyH_done (by kernel_rfl) ?fin200 _
        have B := hHeld.bel
        clear hHeld K
        go_wp2
        go_ret
        exact ⟨by first | rfl | simp, B⟩
    · have OZ : Hid (∀ w', Calls Tryz.prog 20 #[pv v zh zl k, pv v qh ql c] w' fun e w1 => e = .returned (.bool false) ∧ Below w'.heap.size w' w1) := fun w' => by
        have := OZ1.out w'; rw [decide_eq_false c1] at this; exact this
      clear OZ1 F
      go_wp2_with fail
      refine wp_region_held_drew (S := (Kn w [(w9.heap.size, [.bool v, .int .u64 zh, .int .u64 zl, .int .i64 k], 28), (w7.heap.size, [.bool v, .int .u64 yh, .int .u64 yl, .int .i64 k], 28), (w6.heap.size, [.bool v, .int .u64 xh, .int .u64 xl, .int .i64 k], 28), (w2.heap.size + 1, [.int .u64 gh, .int .u64 gl], 24), (w2.heap.size, [.int .u64 fh, .int .u64 fl], 24), (w.heap.size + 1 + 1, [.int .u64 ih, .int .u64 il], 24), (w.heap.size + 1, [.bool v, .int .u64 qh, .int .u64 ql, .int .i64 c], 28), (w.heap.size, [.bool v, .int .u64 h, .int .u64 l, .int .i64 b], 28)])) (by kernel_rfl) ?hS300 (fun hHeld => ?rest300)
      case hS300 => (first | with_reducible exact K.drew | with_reducible exact hHeld.below hb4 | with_reducible exact hHeld.below hb5 | with_reducible exact hHeld.below hb8)
      refine wpAnyH_take (i := 0) (oi := _) (v := ?v301) (List.getElem?_toArray.trans rfl) (by kernel_rfl) (by kernel_rfl) (by kernel_rfl) (fun _ _ _ h => h) (Or.inl ⟨by rfl, ?hy301⟩) (by assumption) ?rest301
      case hy301 => (intro wq hSw; (try simp only [Two, Kn, Facts, CellsAt] at hSw); go_simp; try with_reducible rfl)
      try simp only [Act.put, List.setIfInBounds_toArray, List.set_cons_zero, List.set_cons_succ]
      refine wpAnyH_take (i := 1) (oi := _) (v := ?v302) (List.getElem?_toArray.trans rfl) (by kernel_rfl) (by kernel_rfl) (by kernel_rfl) (fun _ _ _ h => h) (Or.inl ⟨by rfl, ?hy302⟩) (by assumption) ?rest302
      case hy302 => (intro wq hSw; (try simp only [Two, Kn, Facts, CellsAt] at hSw); go_simp; try with_reducible rfl)
      try simp only [Act.put, List.setIfInBounds_toArray, List.set_cons_zero, List.set_cons_succ]
      refine wpAnyH_take (i := 3) (oi := _) (v := ?v303) (List.getElem?_toArray.trans rfl) (by kernel_rfl) (by kernel_rfl) (by kernel_rfl) (fun _ _ _ h => h) (Or.inl ⟨by rfl, ?hy303⟩) (by assumption) ?rest303
      case hy303 => (intro wq hSw; (try simp only [Two, Kn, Facts, CellsAt] at hSw); go_simp; try with_reducible rfl)
      try simp only [Act.put, List.setIfInBounds_toArray, List.set_cons_zero, List.set_cons_succ]
      refine wpAnyH_take (i := 4) (oi := _) (v := ?v304) (List.getElem?_toArray.trans rfl) (by kernel_rfl) (by kernel_rfl) (by kernel_rfl) (fun _ _ _ h => h) (Or.inl ⟨by rfl, ?hy304⟩) (by assumption) ?rest304
      case hy304 => (intro wq hSw; (try simp only [Two, Kn, Facts, CellsAt] at hSw); go_simp; try with_reducible rfl)
      try simp only [Act.put, List.setIfInBounds_toArray, List.set_cons_zero, List.set_cons_succ]
      refine wpAnyH_ready (rs := [2]) (by kernel_rfl) (by simp) ?rdy305
      refine AllReadyH.cons (List.getElem?_toArray.trans rfl) (fun K hK => ?stp305) AllReadyH.nil
      go_simp
      go_wp2_with fail
      (refine (OZ.out _).mono ?_; rintro e w10 ⟨rfl, hb4⟩)
      go_wp2_with fail
      refine hK.out _ _ ?hSn305 (fun hHeld2 => ?rest305)
      case hSn305 => (first | with_reducible exact K.drew | with_reducible exact hHeld.below hb4 | with_reducible exact hHeld.below hb5 | with_reducible exact hHeld.below hb8)
      clear hK K hHeld
      have hHeld := hHeld2
      clear hHeld2
      try simp only [Act.put, List.setIfInBounds_toArray, List.set_cons_zero, List.set_cons_succ]
      refine wpAnyH_ready (rs := [5]) (by kernel_rfl) (by simp) ?rdy306
      refine AllReadyH.cons (List.getElem?_toArray.trans rfl) (fun K hK => ?stp306) AllReadyH.nil
      go_simp
      go_wp2_with fail
      (refine (NF.out _).mono ?_; rintro e w11 ⟨rfl, hb5⟩)
      go_wp2_with fail
      refine hK.out _ _ ?hSn306 (fun hHeld2 => ?rest306)
      case hSn306 => (first | with_reducible exact K.drew | with_reducible exact hHeld.below hb4 | with_reducible exact hHeld.below hb5 | with_reducible exact hHeld.below hb8)
      clear hK K hHeld
      have hHeld := hHeld2
      clear hHeld2
      try simp only [Act.put, List.setIfInBounds_toArray, List.set_cons_zero, List.set_cons_succ]
      refine wpAnyH_take (i := 6) (oi := _) (v := (Value.bool false)) (List.getElem?_toArray.trans rfl) (by kernel_rfl) (by kernel_rfl) (by kernel_rfl) (fun _ _ _ h => h) (Or.inl ⟨by rfl, ?hy307⟩) (by assumption) ?rest307
      case hy307 => (intro wq hSw; (try simp only [Two, Kn, Facts, CellsAt] at hSw); go_simp; (all_goals (first | rfl | simp [*])))
      try simp only [Act.put, List.setIfInBounds_toArray, List.set_cons_zero, List.set_cons_succ]
      refine wpAnyH_take (i := 7) (oi := _) (v := ?v308) (List.getElem?_toArray.trans rfl) (by kernel_rfl) (by kernel_rfl) (by kernel_rfl) (fun _ _ _ h => h) (Or.inl ⟨by rfl, ?hy308⟩) (by assumption) ?rest308
      case hy308 => (intro wq hSw; (try simp only [Two, Kn, Facts, CellsAt] at hSw); go_simp; try with_reducible rfl)
      try simp only [Act.put, List.setIfInBounds_toArray, List.set_cons_zero, List.set_cons_succ]
      refine wpAnyH_take (i := 8) (oi := _) (v := undef) (List.getElem?_toArray.trans rfl) (by kernel_rfl) (by kernel_rfl) (by kernel_rfl) (fun _ _ _ h => h) (Or.inr ⟨by rfl, rfl⟩) (by assumption) ?rest309
      try simp only [Act.put, List.setIfInBounds_toArray, List.set_cons_zero, List.set_cons_succ]
      refine wpAnyH_take (i := 9) (oi := _) (v := undef) (List.getElem?_toArray.trans rfl) (by kernel_rfl) (by kernel_rfl) (by kernel_rfl) (fun _ _ _ h => h) (Or.inr ⟨by rfl, rfl⟩) (by assumption) ?rest310
      try simp only [Act.put, List.setIfInBounds_toArray, List.set_cons_zero, List.set_cons_succ]
      refine wpAnyH_take (i := 10) (oi := _) (v := undef) (List.getElem?_toArray.trans rfl) (by kernel_rfl) (by kernel_rfl) (by kernel_rfl) (fun _ _ _ h => h) (Or.inr ⟨by rfl, rfl⟩) (by assumption) ?rest311
      try simp only [Act.put, List.setIfInBounds_toArray, List.set_cons_zero, List.set_cons_succ]
      refine wpAnyH_take (i := 11) (oi := _) (v := undef) (List.getElem?_toArray.trans rfl) (by kernel_rfl) (by kernel_rfl) (by kernel_rfl) (fun _ _ _ h => h) (Or.inr ⟨by rfl, rfl⟩) (by assumption) ?rest312
      try simp only [Act.put, List.setIfInBounds_toArray, List.set_cons_zero, List.set_cons_succ]
      refine wpAnyH_take (i := 12) (oi := _) (v := ?v313) (List.getElem?_toArray.trans rfl) (by kernel_rfl) (by kernel_rfl) (by kernel_rfl) (fun _ _ _ h => h) (Or.inl ⟨by rfl, ?hy313⟩) (by assumption) ?rest313
      case hy313 => (intro wq hSw; (try simp only [Two, Kn, Facts, CellsAt] at hSw); go_simp; try with_reducible rfl)
      try simp only [Act.put, List.setIfInBounds_toArray, List.set_cons_zero, List.set_cons_succ]
      refine wpAnyH_take (i := 13) (oi := _) (v := ?v314) (List.getElem?_toArray.trans rfl) (by kernel_rfl) (by kernel_rfl) (by kernel_rfl) (fun _ _ _ h => h) (Or.inl ⟨by rfl, ?hy314⟩) (by assumption) ?rest314
      case hy314 => (intro wq hSw; (try simp only [Two, Kn, Facts, CellsAt] at hSw); go_simp; try with_reducible rfl)
      try simp only [Act.put, List.setIfInBounds_toArray, List.set_cons_zero, List.set_cons_succ]
      refine wpAnyH_take (i := 14) (oi := _) (v := ?v315) (List.getElem?_toArray.trans rfl) (by kernel_rfl) (by kernel_rfl) (by kernel_rfl) (fun _ _ _ h => h) (Or.inl ⟨by rfl, ?hy315⟩) (by assumption) ?rest315
      case hy315 => (intro wq hSw; (try simp only [Two, Kn, Facts, CellsAt] at hSw); go_simp; try with_reducible rfl)
      try simp only [Act.put, List.setIfInBounds_toArray, List.set_cons_zero, List.set_cons_succ]
      refine wpAnyH_done (by kernel_rfl) ?fin300 _
      have B := hHeld.bel
      clear hHeld K
      go_wp2
      go_ret
      exact ⟨by first | rfl | simp, B⟩

theorem spans_walk {v u : Bool} {h l b k qh ql c ih il : Int} {n m i : Nat} (hp : IsNum h l n) (hq : IsNum qh ql m) (hi : IsNum ih il i) (w : World) (hL : LW w)
    (aw : ∀ w, LW w → Calls Tryz.prog 29 #[] w fun e w' => e = .returned (.bool true) ∧ Below w.heap.size w w') :
    Calls Tryz.prog 9 #[pv v h l b, .int .i64 k, pv u qh ql c, nv ih il] w fun e w' => e = .returned (.bool true) ∧ Below w.heap.size w w' := by
  cases hc : cutB v n b k
  · exact spans_a1 hp hq hc w hL aw
  · cases hq0 : okP u m c
    · exact spans_a2 hp hq hc hq0 w hL aw
    · cases ho : overB v n b u m c
      · exact spans_ra hp hq hc hq0 ho w hL aw
      · obtain rfl : v = u := by
          unfold overB at ho
          rw [Bool.or_eq_true] at ho
          rcases ho with q | q
          · exact ((has_parts (within_parts q).2.2).1).symm
          · exact (has_parts (within_parts q).2.2).1
        have kp := (cutB_parts hc).1
        have p1 := pow_pos2 (behindP v b)
        have p2 := pow_pos2 (behindP v c)
        rcases span_ends hc hq0 ho hp.lt hq.lt with ⟨hw, hx⟩ | ⟨hw, h1, h2⟩
        · obtain ⟨fh, fl, hf⟩ := IsNum.ex (n := numN v n k n) (Nat.lt_of_le_of_lt (Nat.div_le_self _ _) (Nat.lt_of_le_of_lt (Nat.sub_le _ _) hp.lt))
          obtain ⟨gh, gl, hg⟩ := IsNum.ex (n := numN v n k (lastN v n b)) (Nat.lt_of_le_of_lt (Nat.div_le_self _ _) (Nat.lt_of_le_of_lt (Nat.sub_le _ _) (lastN_small kp hp.lt).1))
          exact spans_ok hp hq hi hc hq0 ho (Nat.le_refl _) (by unfold lastN; omega) hx (Nat.le_refl _) hf hg (fun w' => span_ok_p hp hq hp hc hq0 ho hw kp (Nat.le_refl _) hf hg w') w hL aw
        · obtain ⟨fh, fl, hf⟩ := IsNum.ex (n := numN v n k m) (Nat.lt_of_le_of_lt (Nat.div_le_self _ _) (Nat.lt_of_le_of_lt (Nat.sub_le _ _) hq.lt))
          obtain ⟨gh, gl, hg⟩ := IsNum.ex (n := numN v n k (lastN v m c)) (Nat.lt_of_le_of_lt (Nat.div_le_self _ _) (Nat.lt_of_le_of_lt (Nat.sub_le _ _) (lastN_small hq0 hq.lt).1))
          exact spans_ok hp hq hi hc hq0 ho h1 (by unfold lastN; omega) (fun x _ _ => Iff.rfl) h2 hf hg (fun w' => span_ok_q hp hq hq hc hq0 ho hw hq0 h1 hf hg w') w hL aw
end Go.Proofs.YtmhnfgfdggjdhaaGreatDoor

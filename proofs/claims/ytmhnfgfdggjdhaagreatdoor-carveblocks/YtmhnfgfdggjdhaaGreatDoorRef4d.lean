/-
  What the reference's Block returns, for every prefix.
-/
import Derived.Test.YtmhnfgfdggjdhaaGreatDoorRef4a
import Derived.Test.YtmhnfgfdggjdhaaGreatDoorRef4c
namespace Go.Proofs.YtmhnfgfdggjdhaaGreatDoor
open Go.ChangeShapes Go.WideShapes Go.ChangeAt Go.RowKit
set_option linter.unusedVariables false
set_option linter.unusedSimpArgs false

/-- The bits of a block. -/
theorem blk_bits {v : Bool} {n i W B C P : Nat} (hW : widthA v = (W : Nat)) (hc : cutB v n (B : Nat) (C : Nat) = true) (hi : i < 2 ^ (C - B)) (hP : P < W) : bitN (blkN v n (C : Nat) i) (W - 1 - P) = if B ≤ P ∧ P < C then bitN i (C - 1 - P) else bitN n (W - 1 - P) := by
  obtain ⟨k1, k2, k3, k4, k5⟩ := cutB_parts hc
  have e1 : behindP v (B : Nat) = W - B := by unfold behindP; omega
  have e2 : behindP v (C : Nat) = W - C := by unfold behindP; omega
  have e3 : ((C : Int) - (B : Int)).toNat = C - B := by omega
  have hm := (okP_parts k1).2
  rw [e1] at hm
  obtain ⟨q, hq⟩ := Nat.dvd_of_mod_eq_zero hm
  have s := blk_small hc (by rw [e3]; exact hi)
  rw [e1, e2] at s
  have p := pow_pos2 (W - C)
  have eq : blkN v n (C : Nat) i = n ||| 2 ^ (W - C) * i := by
    unfold blkN
    rw [e2, Nat.mul_comm i, hq, or_add _ _ _ (by rw [Nat.mul_comm]; omega)]
  rw [eq, bitN_test, bitN_test, bitN_test, Nat.testBit_or, Nat.testBit_two_pow_mul]
  have nt : ∀ j, j < W - B → n.testBit j = false := fun j hj => by
    rw [hq, Nat.testBit_two_pow_mul]
    simp; omega
  have it : ∀ j, C - B ≤ j → i.testBit j = false := fun j hj => Nat.testBit_lt_two_pow (Nat.lt_of_lt_of_le hi (Nat.pow_le_pow_right (by decide) hj))
  by_cases c1 : B ≤ P
  · by_cases c2 : P < C
    · rw [if_pos ⟨c1, c2⟩, nt _ (by omega), decide_eq_true (by omega), Bool.false_or, Bool.true_and, show W - 1 - P - (W - C) = C - 1 - P by omega]
    · rw [if_neg (fun h => c2 h.2), decide_eq_false (by omega), Bool.false_and, Bool.or_false]
  · rw [if_neg (fun h => c1 h.1)]
    by_cases c3 : W - C ≤ W - 1 - P
    · rw [decide_eq_true c3, it _ (by omega), Bool.and_false, Bool.or_false]
    · rw [decide_eq_false c3, Bool.false_and, Bool.or_false]

theorem rbk_start (w : World) (v : Bool) (h l b ih il : Int) : Kn w [(w.heap.size + 1 + 1, [.bool false, .int .u64 0, .int .u64 0, .int .i64 0], 28), (w.heap.size + 1, [.int .u64 ih, .int .u64 il], 24), (w.heap.size, [.bool v, .int .u64 h, .int .u64 l, .int .i64 b], 28)] (((w.alloc (.cells #[.bool v, .int .u64 h, .int .u64 l, .int .i64 b] 28)).alloc (.cells #[.int .u64 ih, .int .u64 il] 24)).alloc (.cells #[.bool false, .int .u64 0, .int .u64 0, .int .i64 0] 28)) :=
  (((Kn.nil w).push rfl).push (by simp)).push (by simp)

set_option maxRecDepth 100000 in
set_option maxHeartbeats 800000 in
theorem rbk_no {v : Bool} {h l b k ih il : Int} {n : Nat} (hp : IsNum h l n) (hc : cutB v n b k = false) (w : World) :
    Calls Tryz.prog 33 #[pv v h l b, .int .i64 k, nv ih il] w fun e w' => e = .returned (.tuple #[pv false 0 0 0, .int .i64 1]) ∧ Below w.heap.size w w' := by
  have C1 : Hid (∀ w', Calls Tryz.prog 41 #[pv v h l b, .int .i64 k] w' fun e w1 => e = .returned (.bool false) ∧ Below w'.heap.size w' w1) := fun w' => hc ▸ rcuts_c hp w'
  have K := rbk_start w v h l b ih il
  clear hp hc
  go_enter Tryz.func33, Tryz.ntmps33
  go_wp2_with fail
  refine (C1.out _).mono ?_
  rintro e w1 ⟨rfl, hb⟩
  replace K := K.below hb
  have F := K.1
  simp only [Facts, CellsAt] at F
  clear hb C1
  obtain ⟨r0, r1, r2, r3, r4, r5, r6, r7, r8⟩ := K.2.1.1.four
  have B := K.bel
  clear K F
  go_wp2
  refine bodyPost_ret (v := .tuple #[pv false 0 0 0, .int .i64 1]) (by simp [results, Tryz.results33, go_sem, World.cell?_setCell_same', World.cell?_setCell_other, *]) rfl ⟨rfl, by repeat (first | with_reducible exact Below.refl _ _ | with_reducible refine Below.drew ?_ | with_reducible refine Below.alloc ?_ (by first | omega | (simp <;> omega)) _ | with_reducible refine Below.setCell ?_ (by first | omega | (simp <;> omega)) _ | with_reducible refine Below.trans ?_ (Below.mono B (by first | omega | (simp <;> omega))))⟩

set_option maxRecDepth 100000 in
set_option maxHeartbeats 1600000 in
theorem rbk_range {v : Bool} {h l b k ih il : Int} {n i : Nat} (hp : IsNum h l n) (hi : IsNum ih il i) (hc : cutB v n b k = true) (hn : ¬ i < 2 ^ (k - b).toNat) (w : World) :
    Calls Tryz.prog 33 #[pv v h l b, .int .i64 k, nv ih il] w fun e w' => e = .returned (.tuple #[pv false 0 0 0, .int .i64 12]) ∧ Below w.heap.size w w' := by
  have C1 : Hid (∀ w', Calls Tryz.prog 41 #[pv v h l b, .int .i64 k] w' fun e w1 => e = .returned (.bool true) ∧ Below w'.heap.size w' w1) := fun w' => hc ▸ rcuts_c hp w'
  obtain ⟨_, b0, b1, b2, _⟩ := cutB_parts hc
  have hW2 := width_le v
  obtain ⟨ch, cl, t, hct⟩ := countIs_ex (K := (k - b).toNat) (by omega)
  have hct' := hct
  obtain ⟨_, rfl, cn⟩ : (k - b).toNat < 128 ∧ t = true ∧ IsNum ch cl (2 ^ (k - b).toNat) := by
    rcases hct' with q | ⟨q, _⟩
    · exact q
    · refine absurd ?_ hn
      rw [q]; simpa using hi.lt
  have N1 : Hid (∀ w', Calls Tryz.prog 72 #[.int .i64 (k - b)] w' fun e w1 => e = .returned (.tuple #[nv ch cl, .bool true]) ∧ Below w'.heap.size w' w1) := fun w' => count_is (K := (k - b).toNat) (by omega) hct w'
  have CM : Hid (∀ w', Calls Tryz.prog 73 #[nv ih il, nv ch cl] w' fun e w1 => ∃ q : Int, e = .returned (.int .i64 q) ∧ 0 ≤ q ∧ Below w'.heap.size w' w1) := fun w' => by
    refine (rcmp_c hi cn w').mono ?_
    rintro e w1 ⟨q, rfl, hq, hb⟩
    refine ⟨q, rfl, ?_, hb⟩
    have e1 := hq.out
    by_cases c : i = 2 ^ (k - b).toNat
    · rw [e1, cmpI_eq (by rw [c])]; decide
    · rw [e1, cmpI_gt (by omega)]; decide
  have hw1 : IntKind.i64.wrap (k - b) = k - b := by simp [IntKind.wrap, IntKind.bits, IntKind.signed]; omega
  have K := rbk_start w v h l b ih il
  clear hp hi hc hn b0 b1 b2 hW2 hct hct' cn
  go_enter Tryz.func33, Tryz.ntmps33
  go_wp2_with fail
  refine (C1.out _).mono ?_
  rintro e w1 ⟨rfl, hb⟩
  replace K := K.below hb
  have F := K.1
  simp only [Facts, CellsAt] at F
  clear hb C1
  go_wp2_with fail
  refine (N1.out _).mono ?_
  rintro e w2 ⟨rfl, hb⟩
  replace K := (K.below hb).push (b := w2.heap.size) (cs := [.int .u64 ch, .int .u64 cl]) (t := 24) (by simp)
  replace F := K.1
  simp only [Facts, CellsAt] at F
  clear hb N1
  go_wp2_with fail
  refine (CM.out _).mono ?_
  rintro e w3 ⟨q, rfl, hq, hb⟩
  replace K := K.below hb
  clear hb CM
  obtain ⟨r0, r1, r2, r3, r4, r5, r6, r7, r8⟩ := K.2.1.2.1.four
  have B := K.bel
  clear K F
  go_wp2
  refine bodyPost_ret (v := .tuple #[pv false 0 0 0, .int .i64 12]) (by simp [results, Tryz.results33, go_sem, World.cell?_setCell_same', World.cell?_setCell_other, *]) rfl ⟨rfl, by repeat (first | with_reducible exact Below.refl _ _ | with_reducible refine Below.drew ?_ | with_reducible refine Below.alloc ?_ (by first | omega | (simp <;> omega)) _ | with_reducible refine Below.setCell ?_ (by first | omega | (simp <;> omega)) _ | with_reducible refine Below.trans ?_ (Below.mono B (by first | omega | (simp <;> omega))))⟩

theorem BitRow.far {w : World} {g n a D : Nat} (x : BitRow w g n a) (hne : g ≠ D) (i : Nat) (u : Value) : BitRow (w.setCell ⟨D, i, none⟩ u) g n a :=
  ⟨by simpa [World.setCell] using x.1, fun j hj => by rw [World.cell?_of_block (w := w) (Below.heap_setCell _ _ _ _ hne)]; exact x.2 j hj⟩

theorem row_new {v : Bool} {W : Nat} (hW : widthA v = (W : Nat)) {h l : Int} {a : Nat} (ha : IsNum h l a) (w : World) :
    Calls Tryz.prog 59 #[av v h l] w fun e w' => ∃ g cap, e = .returned (.slice (some ⟨g, 0, none⟩) W cap) ∧ w.heap.size ≤ g ∧ W ≤ cap ∧ Rw w' g W (fun i => bitN a (W - 1 - i)) ∧ Below w.heap.size w w' := by
  cases v
  · obtain rfl : W = 32 := by have : widthA false = 32 := rfl; omega
    refine (row_32 ha w).mono ?_
    rintro e w' ⟨g, cap, rfl, h0, h1, h2, h3, h4⟩
    exact ⟨g, cap, rfl, h0, h1, h3, h4⟩
  · obtain rfl : W = 128 := by have : widthA true = 128 := rfl; omega
    refine (row_128 ha w).mono ?_
    rintro e w' ⟨g, cap, rfl, h0, h1, h2, h3, h4⟩
    exact ⟨g, cap, rfl, h0, h1, h3, h4⟩

set_option maxRecDepth 100000 in
set_option maxHeartbeats 3200000 in
theorem rbk_ok_t {v : Bool} {h l b k ih il rh rl ch cl : Int} {n i W B C : Nat} (hW : widthA v = (W : Nat)) (hB : b = (B : Int)) (hC : k = (C : Int)) (hp : IsNum h l n) (hi : IsNum ih il i) (hc : cutB v n b k = true) (hn : i < 2 ^ (k - b).toNat) (hr : IsNum rh rl (blkN v n k i)) (hct : CountIs (k - b).toNat ch cl true) (CM : Hid (∀ w', Calls Tryz.prog 73 #[nv ih il, nv ch cl] w' fun e w1 => ∃ q : Int, e = .returned (.int .i64 q) ∧ ¬ 0 ≤ q ∧ Below w'.heap.size w' w1)) (w : World) :
    Calls Tryz.prog 33 #[pv v h l b, .int .i64 k, nv ih il] w fun e w' => e = .returned (.tuple #[pv v rh rl k, .int .i64 0]) ∧ Below w.heap.size w w' := by
  have C1 : Hid (∀ w', Calls Tryz.prog 41 #[pv v h l b, .int .i64 k] w' fun e w1 => e = .returned (.bool true) ∧ Below w'.heap.size w' w1) := fun w' => hc ▸ rcuts_c hp w'
  obtain ⟨_, b0, b1, b2, _⟩ := cutB_parts hc
  have hW2 := width_le v
  have w128 : W ≤ 128 := by omega
  have N1 : Hid (∀ w', Calls Tryz.prog 72 #[.int .i64 (k - b)] w' fun e w1 => e = .returned (.tuple #[nv ch cl, .bool true]) ∧ Below w'.heap.size w' w1) := fun w' => count_is (K := (k - b).toNat) (by omega) hct w'
  have RO : Hid (∀ w', Calls Tryz.prog 59 #[av v h l] w' fun e w' => ∃ g cap, e = .returned (.slice (some ⟨g, 0, none⟩) W cap) ∧ _) := fun w' => row_new hW hp w'
  have BI : Hid (∀ w', Calls Tryz.prog 74 #[nv ih il] w' fun e w' => ∃ g cap, e = .returned (.slice (some ⟨g, 0, none⟩) 128 cap) ∧ _) := fun w' => bits_c hi w'
  have HH : Hid (W ≤ 128 ∧ b = (B : Int) ∧ k = (C : Int) ∧ B ≤ C ∧ C ≤ W ∧ (∀ P, P < W → bitN (blkN v n k i) (W - 1 - P) = if B ≤ P ∧ P < C then bitN i (C - 1 - P) else bitN n (W - 1 - P)) ∧ blkN v n k i < 2 ^ W ∧ IsNum rh rl (blkN v n k i)) := by
    refine ⟨w128, hB, hC, by omega, by omega, fun P hP => ?_, ?_, hr⟩
    · subst hB hC
      exact blk_bits hW hc (by rw [show C - B = ((C : Int) - (B : Int)).toNat by omega]; exact hn) hP
    · have o := (blk_ok hc hp.lt hn)
      have oa := (fitsB_parts (okP_parts o.1).1).1
      cases v
      · obtain rfl : W = 32 := by have : widthA false = 32 := rfl; omega
        simpa [okA] using oa
      · obtain rfl : W = 128 := by have : widthA true = 128 := rfl; omega
        simpa using o.2
  have hw1 : IntKind.i64.wrap (k - b) = k - b := by simp [IntKind.wrap, IntKind.bits, IntKind.signed]; omega
  have hw2 : IntKind.i64.wrap (k - 1) = k - 1 := by simp [IntKind.wrap, IntKind.bits, IntKind.signed]; omega
  have hw3 : Hid (∀ J : Int, 0 ≤ J → J < k - b → IntKind.i64.wrap (k - 1 - J) = k - 1 - J) := fun J j0 j1 => by simp [IntKind.wrap, IntKind.bits, IntKind.signed]; omega
  have bk : 0 ≤ b ∧ b ≤ k ∧ k ≤ 128 := ⟨b0, b1, by omega⟩
  have K := rbk_start w v h l b ih il
  clear hp hi hc hn b0 b1 b2 hW2 hct hW hr w128 hB hC
  go_enter Tryz.func33, Tryz.ntmps33
  go_wp2_with fail
  refine (C1.out _).mono ?_
  rintro e w1 ⟨rfl, hb⟩
  replace K := K.below hb
  have F := K.1
  simp only [Facts, CellsAt] at F
  clear hb C1
  go_wp2_with fail
  refine (N1.out _).mono ?_
  rintro e w2 ⟨rfl, hb⟩
  replace K := (K.below hb).push (b := w2.heap.size) (cs := [.int .u64 ch, .int .u64 cl]) (t := 24) (by simp)
  replace F := K.1
  simp only [Facts, CellsAt] at F
  clear hb N1
  (go_wp2_with fail; refine (CM.out _).mono ?_; rintro e w3 ⟨q, rfl, hq, hb⟩; replace K := K.below hb; replace F := K.1; simp only [Facts, CellsAt] at F; clear hb)
  go_wp2_with fail
  refine (RO.out _).mono ?_
  rintro e w4 ⟨g, cap, rfl, hg, hcap, hRw, hb⟩
  have LT := K.lts
  simp only [Lts] at LT
  have hg1 : w.heap.size + 1 + 1 < g ∧ w2.heap.size < g := by
    have := hb.size
    omega
  replace K := K.below hb
  replace F := K.1
  simp only [Facts, CellsAt] at F
  clear hb RO LT CM
  go_wp2_with fail
  refine (BI.out _).mono ?_
  rintro e w5 ⟨gx, capx, rfl, hgx, hBR, hb⟩
  have hne : gx ≠ g := by have := hRw.1; omega
  replace hRw := hRw.below hb
  replace K := (K.below hb).tail
  clear hb BI hgx F
  go_wp2_with fail
  go_loopw [12] (fun q wr => ∃ (j : Nat) (J : Int), q = .int .i64 J ∧ Hid (J = (j : Int)) ∧ 0 ≤ J ∧ J ≤ k - b ∧ Rw wr g W (fun P => if C - j ≤ P ∧ P < C then bitN i (C - 1 - P) else bitN n (W - 1 - P)) ∧ BitRow wr gx 128 i ∧ Kn w [(w.heap.size + 1 + 1, [.bool false, .int .u64 0, .int .u64 0, .int .i64 0], 28), (w.heap.size + 1, [.int .u64 ih, .int .u64 il], 24), (w.heap.size, [.bool v, .int .u64 h, .int .u64 l, .int .i64 b], 28)] wr) (fun q _ => (k - b - intOf q).toNat)
  case atStart => exact ⟨0, 0, rfl, by show _ = _; simp, by omega, by omega, hRw.congr (fun P _ => by rw [if_neg (by omega)]), hBR, K⟩
  case round =>
    clear hRw hBR K
    obtain ⟨j, J, rfl, HJ, J0, J1, hR, hX, K⟩ := hrel
    have F := K.1
    simp only [Facts, CellsAt] at F
    by_cases hlt : J < k - b
    · obtain ⟨h128, hB, hC, hBC, hCW, _⟩ := HH.out
      have hJ := HJ.out
      have hw4 := hw3.out J J0 hlt
      have c1 := hX.2 J.toNat (by omega)
      obtain ⟨bb, hbb⟩ : ∃ bb : Int, bb = ((bitN i J.toNat : Nat) : Int) := ⟨_, rfl⟩
      rw [← hbb] at c1
      obtain ⟨M, hM⟩ : ∃ M : Int, M = k - 1 - J := ⟨_, rfl⟩
      have M0 : 0 ≤ M := by omega
      have M1 : M < (W : Int) := by omega
      have c2 := hR.2.1 M.toNat (by omega)
      have f2 := hR.2.2 M.toNat
      have J128 : J < 128 := by omega
      have nx : Hid (Rw (wr.setCell ⟨g, M.toNat, none⟩ (.int .i64 bb)) g W (fun P => if C - (j + 1) ≤ P ∧ P < C then bitN i (C - 1 - P) else bitN n (W - 1 - P))) := by
        show Rw _ _ _ _
        rw [hbb]
        refine (hR.put (t := bitN i J.toNat) (show M.toNat < W by omega)).congr (fun P hP => ?_)
        by_cases e : P = M.toNat
        · subst e
          rw [if_pos rfl, if_pos (by omega)]
          congr 1
          omega
        · rw [if_neg e]
          by_cases e2 : C - j ≤ P ∧ P < C
          · rw [if_pos e2, if_pos (by omega)]
          · rw [if_neg e2, if_neg (by omega)]
      have nX : Hid (BitRow (wr.setCell ⟨g, M.toNat, none⟩ (.int .i64 bb)) gx 128 i) := hX.far hne _ _
      have nK : Hid (Kn w [(w.heap.size + 1 + 1, [.bool false, .int .u64 0, .int .u64 0, .int .i64 0], 28), (w.heap.size + 1, [.int .u64 ih, .int .u64 il], 24), (w.heap.size, [.bool v, .int .u64 h, .int .u64 l, .int .i64 b], 28)] (wr.setCell ⟨g, M.toNat, none⟩ (.int .i64 bb))) := K.set (by simp only [Off]; repeat' (first | exact trivial | refine And.intro ?_ ?_ | omega)) (by omega) _ _
      rw [← hM] at hw4
      have hM2 : k - 1 - J = M := hM.symm
      have gl1 := hR.1
      have gl2 := hX.1
      clear h128 hB hC hBC hCW hJ hR hX K hbb hM
      go_wp2
      go_roundw
      case measure => simp [intOf]; omega
      case rel => exact ⟨j + 1, J + 1, rfl, by show _ = _; have := HJ.out; omega, by omega, by omega, nx.out, nX.out, nK.out⟩
    · obtain rfl : J = k - b := by omega
      obtain ⟨h128, hB, hC, hBC, hCW, bits, lt, hr⟩ := HH.out
      have hJ := HJ.out
      have AD : Hid (Calls Tryz.prog 75 #[.bool v, .slice (some ⟨g, 0, none⟩) W cap] wr fun e w' => e = .returned (av v rh rl) ∧ Below wr.heap.size wr w') := by
        have := raddr_any v h128 lt g 0 cap wr hR.1 (fun P hP => by
          rw [Nat.zero_add, hR.2.1 P hP, bits P hP]
          show some (Value.int .i64 ((if C - j ≤ P ∧ P < C then bitN i (C - 1 - P) else bitN n (W - 1 - P) : Nat) : Int)) = _
          rw [show C - j = B by omega])
        refine this.mono ?_
        rintro e w' ⟨h', l', rfl, hn, hb⟩
        obtain ⟨rfl, rfl⟩ := hn.uniq hr
        exact ⟨rfl, hb⟩
      clear h128 hB hC hBC hCW bits lt hr hJ HJ HH hR hX
      go_wp2_with fail
      refine AD.out.mono ?_
      rintro e w6 ⟨rfl, hb⟩
      replace K := K.below hb
      obtain ⟨r0, r1, r2, r3, r4, r5, r6, r7, r8⟩ := K.2.1.1.four
      have B6 := K.bel
      clear hb AD K F
      go_wp2
      refine bodyPost_ret (v := .tuple #[pv v rh rl k, .int .i64 0]) (by simp [results, Tryz.results33, go_sem, World.cell?_setCell_same', World.cell?_setCell_other, *]) rfl ⟨rfl, by repeat (first | with_reducible exact Below.refl _ _ | with_reducible refine Below.drew ?_ | with_reducible refine Below.alloc ?_ (by first | omega | (simp <;> omega)) _ | with_reducible refine Below.setCell ?_ (by first | omega | (simp <;> omega)) _ | with_reducible refine Below.trans ?_ (Below.mono B6 (by first | omega | (simp <;> omega))))⟩

set_option maxRecDepth 100000 in
set_option maxHeartbeats 3200000 in
theorem rbk_ok_f {v : Bool} {h l b k ih il rh rl ch cl : Int} {n i W B C : Nat} (hW : widthA v = (W : Nat)) (hB : b = (B : Int)) (hC : k = (C : Int)) (hp : IsNum h l n) (hi : IsNum ih il i) (hc : cutB v n b k = true) (hn : i < 2 ^ (k - b).toNat) (hr : IsNum rh rl (blkN v n k i)) (hct : CountIs (k - b).toNat ch cl false) (CM : Hid (True)) (w : World) :
    Calls Tryz.prog 33 #[pv v h l b, .int .i64 k, nv ih il] w fun e w' => e = .returned (.tuple #[pv v rh rl k, .int .i64 0]) ∧ Below w.heap.size w w' := by
  have C1 : Hid (∀ w', Calls Tryz.prog 41 #[pv v h l b, .int .i64 k] w' fun e w1 => e = .returned (.bool true) ∧ Below w'.heap.size w' w1) := fun w' => hc ▸ rcuts_c hp w'
  obtain ⟨_, b0, b1, b2, _⟩ := cutB_parts hc
  have hW2 := width_le v
  have w128 : W ≤ 128 := by omega
  have N1 : Hid (∀ w', Calls Tryz.prog 72 #[.int .i64 (k - b)] w' fun e w1 => e = .returned (.tuple #[nv ch cl, .bool false]) ∧ Below w'.heap.size w' w1) := fun w' => count_is (K := (k - b).toNat) (by omega) hct w'
  have RO : Hid (∀ w', Calls Tryz.prog 59 #[av v h l] w' fun e w' => ∃ g cap, e = .returned (.slice (some ⟨g, 0, none⟩) W cap) ∧ _) := fun w' => row_new hW hp w'
  have BI : Hid (∀ w', Calls Tryz.prog 74 #[nv ih il] w' fun e w' => ∃ g cap, e = .returned (.slice (some ⟨g, 0, none⟩) 128 cap) ∧ _) := fun w' => bits_c hi w'
  have HH : Hid (W ≤ 128 ∧ b = (B : Int) ∧ k = (C : Int) ∧ B ≤ C ∧ C ≤ W ∧ (∀ P, P < W → bitN (blkN v n k i) (W - 1 - P) = if B ≤ P ∧ P < C then bitN i (C - 1 - P) else bitN n (W - 1 - P)) ∧ blkN v n k i < 2 ^ W ∧ IsNum rh rl (blkN v n k i)) := by
    refine ⟨w128, hB, hC, by omega, by omega, fun P hP => ?_, ?_, hr⟩
    · subst hB hC
      exact blk_bits hW hc (by rw [show C - B = ((C : Int) - (B : Int)).toNat by omega]; exact hn) hP
    · have o := (blk_ok hc hp.lt hn)
      have oa := (fitsB_parts (okP_parts o.1).1).1
      cases v
      · obtain rfl : W = 32 := by have : widthA false = 32 := rfl; omega
        simpa [okA] using oa
      · obtain rfl : W = 128 := by have : widthA true = 128 := rfl; omega
        simpa using o.2
  have hw1 : IntKind.i64.wrap (k - b) = k - b := by simp [IntKind.wrap, IntKind.bits, IntKind.signed]; omega
  have hw2 : IntKind.i64.wrap (k - 1) = k - 1 := by simp [IntKind.wrap, IntKind.bits, IntKind.signed]; omega
  have hw3 : Hid (∀ J : Int, 0 ≤ J → J < k - b → IntKind.i64.wrap (k - 1 - J) = k - 1 - J) := fun J j0 j1 => by simp [IntKind.wrap, IntKind.bits, IntKind.signed]; omega
  have bk : 0 ≤ b ∧ b ≤ k ∧ k ≤ 128 := ⟨b0, b1, by omega⟩
  have K := rbk_start w v h l b ih il
  clear hp hi hc hn b0 b1 b2 hW2 hct hW hr w128 hB hC
  go_enter Tryz.func33, Tryz.ntmps33
  go_wp2_with fail
  refine (C1.out _).mono ?_
  rintro e w1 ⟨rfl, hb⟩
  replace K := K.below hb
  have F := K.1
  simp only [Facts, CellsAt] at F
  clear hb C1
  go_wp2_with fail
  refine (N1.out _).mono ?_
  rintro e w2 ⟨rfl, hb⟩
  replace K := (K.below hb).push (b := w2.heap.size) (cs := [.int .u64 ch, .int .u64 cl]) (t := 24) (by simp)
  replace F := K.1
  simp only [Facts, CellsAt] at F
  clear hb N1
  skip
  go_wp2_with fail
  refine (RO.out _).mono ?_
  rintro e w4 ⟨g, cap, rfl, hg, hcap, hRw, hb⟩
  have LT := K.lts
  simp only [Lts] at LT
  have hg1 : w.heap.size + 1 + 1 < g ∧ w2.heap.size < g := by
    have := hb.size
    omega
  replace K := K.below hb
  replace F := K.1
  simp only [Facts, CellsAt] at F
  clear hb RO LT CM
  go_wp2_with fail
  refine (BI.out _).mono ?_
  rintro e w5 ⟨gx, capx, rfl, hgx, hBR, hb⟩
  have hne : gx ≠ g := by have := hRw.1; omega
  replace hRw := hRw.below hb
  replace K := (K.below hb).tail
  clear hb BI hgx F
  go_wp2_with fail
  go_loopw [12] (fun q wr => ∃ (j : Nat) (J : Int), q = .int .i64 J ∧ Hid (J = (j : Int)) ∧ 0 ≤ J ∧ J ≤ k - b ∧ Rw wr g W (fun P => if C - j ≤ P ∧ P < C then bitN i (C - 1 - P) else bitN n (W - 1 - P)) ∧ BitRow wr gx 128 i ∧ Kn w [(w.heap.size + 1 + 1, [.bool false, .int .u64 0, .int .u64 0, .int .i64 0], 28), (w.heap.size + 1, [.int .u64 ih, .int .u64 il], 24), (w.heap.size, [.bool v, .int .u64 h, .int .u64 l, .int .i64 b], 28)] wr) (fun q _ => (k - b - intOf q).toNat)
  case atStart => exact ⟨0, 0, rfl, by show _ = _; simp, by omega, by omega, hRw.congr (fun P _ => by rw [if_neg (by omega)]), hBR, K⟩
  case round =>
    clear hRw hBR K
    obtain ⟨j, J, rfl, HJ, J0, J1, hR, hX, K⟩ := hrel
    have F := K.1
    simp only [Facts, CellsAt] at F
    by_cases hlt : J < k - b
    · obtain ⟨h128, hB, hC, hBC, hCW, _⟩ := HH.out
      have hJ := HJ.out
      have hw4 := hw3.out J J0 hlt
      have c1 := hX.2 J.toNat (by omega)
      obtain ⟨bb, hbb⟩ : ∃ bb : Int, bb = ((bitN i J.toNat : Nat) : Int) := ⟨_, rfl⟩
      rw [← hbb] at c1
      obtain ⟨M, hM⟩ : ∃ M : Int, M = k - 1 - J := ⟨_, rfl⟩
      have M0 : 0 ≤ M := by omega
      have M1 : M < (W : Int) := by omega
      have c2 := hR.2.1 M.toNat (by omega)
      have f2 := hR.2.2 M.toNat
      have J128 : J < 128 := by omega
      have nx : Hid (Rw (wr.setCell ⟨g, M.toNat, none⟩ (.int .i64 bb)) g W (fun P => if C - (j + 1) ≤ P ∧ P < C then bitN i (C - 1 - P) else bitN n (W - 1 - P))) := by
        show Rw _ _ _ _
        rw [hbb]
        refine (hR.put (t := bitN i J.toNat) (show M.toNat < W by omega)).congr (fun P hP => ?_)
        by_cases e : P = M.toNat
        · subst e
          rw [if_pos rfl, if_pos (by omega)]
          congr 1
          omega
        · rw [if_neg e]
          by_cases e2 : C - j ≤ P ∧ P < C
          · rw [if_pos e2, if_pos (by omega)]
          · rw [if_neg e2, if_neg (by omega)]
      have nX : Hid (BitRow (wr.setCell ⟨g, M.toNat, none⟩ (.int .i64 bb)) gx 128 i) := hX.far hne _ _
      have nK : Hid (Kn w [(w.heap.size + 1 + 1, [.bool false, .int .u64 0, .int .u64 0, .int .i64 0], 28), (w.heap.size + 1, [.int .u64 ih, .int .u64 il], 24), (w.heap.size, [.bool v, .int .u64 h, .int .u64 l, .int .i64 b], 28)] (wr.setCell ⟨g, M.toNat, none⟩ (.int .i64 bb))) := K.set (by simp only [Off]; repeat' (first | exact trivial | refine And.intro ?_ ?_ | omega)) (by omega) _ _
      rw [← hM] at hw4
      have hM2 : k - 1 - J = M := hM.symm
      have gl1 := hR.1
      have gl2 := hX.1
      clear h128 hB hC hBC hCW hJ hR hX K hbb hM
      go_wp2
      go_roundw
      case measure => simp [intOf]; omega
      case rel => exact ⟨j + 1, J + 1, rfl, by show _ = _; have := HJ.out; omega, by omega, by omega, nx.out, nX.out, nK.out⟩
    · obtain rfl : J = k - b := by omega
      obtain ⟨h128, hB, hC, hBC, hCW, bits, lt, hr⟩ := HH.out
      have hJ := HJ.out
      have AD : Hid (Calls Tryz.prog 75 #[.bool v, .slice (some ⟨g, 0, none⟩) W cap] wr fun e w' => e = .returned (av v rh rl) ∧ Below wr.heap.size wr w') := by
        have := raddr_any v h128 lt g 0 cap wr hR.1 (fun P hP => by
          rw [Nat.zero_add, hR.2.1 P hP, bits P hP]
          show some (Value.int .i64 ((if C - j ≤ P ∧ P < C then bitN i (C - 1 - P) else bitN n (W - 1 - P) : Nat) : Int)) = _
          rw [show C - j = B by omega])
        refine this.mono ?_
        rintro e w' ⟨h', l', rfl, hn, hb⟩
        obtain ⟨rfl, rfl⟩ := hn.uniq hr
        exact ⟨rfl, hb⟩
      clear h128 hB hC hBC hCW bits lt hr hJ HJ HH hR hX
      go_wp2_with fail
      refine AD.out.mono ?_
      rintro e w6 ⟨rfl, hb⟩
      replace K := K.below hb
      obtain ⟨r0, r1, r2, r3, r4, r5, r6, r7, r8⟩ := K.2.1.1.four
      have B6 := K.bel
      clear hb AD K F
      go_wp2
      refine bodyPost_ret (v := .tuple #[pv v rh rl k, .int .i64 0]) (by simp [results, Tryz.results33, go_sem, World.cell?_setCell_same', World.cell?_setCell_other, *]) rfl ⟨rfl, by repeat (first | with_reducible exact Below.refl _ _ | with_reducible refine Below.drew ?_ | with_reducible refine Below.alloc ?_ (by first | omega | (simp <;> omega)) _ | with_reducible refine Below.setCell ?_ (by first | omega | (simp <;> omega)) _ | with_reducible refine Below.trans ?_ (Below.mono B6 (by first | omega | (simp <;> omega))))⟩

theorem rbk_ok {v : Bool} {h l b k ih il rh rl : Int} {n i : Nat} (hp : IsNum h l n) (hi : IsNum ih il i) (hc : cutB v n b k = true) (hn : i < 2 ^ (k - b).toNat) (hr : IsNum rh rl (blkN v n k i)) (w : World) :
    Calls Tryz.prog 33 #[pv v h l b, .int .i64 k, nv ih il] w fun e w' => e = .returned (.tuple #[pv v rh rl k, .int .i64 0]) ∧ Below w.heap.size w w' := by
  obtain ⟨_, b0, b1, b2, _⟩ := cutB_parts hc
  have hW2 := width_le v
  obtain ⟨W, hW⟩ : ∃ W : Nat, widthA v = (W : Nat) := ⟨(widthA v).toNat, by omega⟩
  obtain ⟨ch, cl, t, hct⟩ := countIs_ex (K := (k - b).toNat) (by omega)
  obtain ⟨B, hB⟩ : ∃ B : Nat, b = (B : Int) := ⟨b.toNat, by omega⟩
  obtain ⟨C, hC⟩ : ∃ C : Nat, k = (C : Int) := ⟨k.toNat, by omega⟩
  cases t
  · exact rbk_ok_f hW hB hC hp hi hc hn hr hct trivial w
  · refine rbk_ok_t hW hB hC hp hi hc hn hr hct (fun w' => ?_) w
    obtain ⟨_, _, cn⟩ : (k - b).toNat < 128 ∧ true = true ∧ IsNum ch cl (2 ^ (k - b).toNat) := by
      rcases hct with q | ⟨_, q, _⟩
      · exact q
      · cases q
    refine (rcmp_c hi cn w').mono ?_
    rintro e w1 ⟨q, rfl, hq, hb⟩
    refine ⟨q, rfl, ?_, hb⟩
    rw [hq.out, cmpI_lt (by omega)]
    decide
end Go.Proofs.YtmhnfgfdggjdhaaGreatDoor

/-
  The walk of BitmapPlays.
-/
import Derived.Test.YtkfglbmhpdcfpaaDoorBmB2
import Derived.Test.YtkfglbmhpdcfpaaDoorBmK
namespace Go.Proofs.YtkfglbmhpdcfpaaDoor
open Go.ChangeShapes Go.WideShapes Go.ChangeAt Go.RowKit
set_option linter.unusedVariables false
set_option linter.unusedSimpArgs false

/-- What a cell of the argument holds. -/
def AX (b o : Nat) (A : Int) (W : World) : Prop := W.cell? ⟨b, o, none⟩ = some (.int .i64 A)

theorem AX.below {b o : Nat} {A : Int} {W W' : World} (h : AX b o A W) (k : Below W.heap.size W W') : AX b o A W' := (k.cell (p := ⟨b, o, none⟩) (cell_lt h)).trans h

theorem rnext_s {W : World} {b h n : Nat} {f : Nat → Bool} (H : RefAt W b h n f) {i : Int} (i0 : -9223372036854775808 ≤ i) (i1 : i ≤ 9223372036854775807) {P : Int} {o : Bool} (hP : nxI f n i = P) (hO : nxO f n i = o) : Calls Tryd.prog 21 #[.pointer (some ⟨b, 0, none⟩), .int .i64 i] W fun e W' => e = .returned (.tuple #[.int .i64 P, .bool o]) ∧ W' = W := by
  by_cases h0 : n = 0
  · subst h0 hP hO
    exact rnext_zero b h f i W H
  · exact rnext_ok b h n f i i0 i1 (by omega) W H hP hO

set_option maxRecDepth 100000 in
set_option maxHeartbeats 2000000 in
theorem plays_no (n : Int) (hn : n < 0 ∨ 65536 < n) (v : Value) (w : World) (hT : TB w) :
    Calls Tryd.prog 5 #[.int .i64 n, v] w fun e w' => e = .returned (.bool true) ∧ Below w.heap.size w w' := by
  have AW := hide (bawake_c w hT)
  have NB := hide (new_bad n hn)
  have RB := hide (rnew_bad n hn)
  have hc : ¬ n > 300 ∨ (n > 300 ∧ ¬ n ≤ 65536) := by omega
  clear hT hn
  rcases hc with h1 | ⟨h1, h2⟩
  all_goals
    go_enter Tryd.func5, Tryd.ntmps5
    go_wp2_with fail
    refine AW.out.mono ?_
    rintro e w1 ⟨rfl, hb⟩
    go_wp2_with fail
    refine (NB.out _).mono ?_
    rintro e w2 ⟨rfl, rfl⟩
    go_wp2_with fail
    refine (RB.out _).mono ?_
    rintro e w3 ⟨rfl, rfl⟩
    go_wp2_with fail
    go_ret
    exact ⟨rfl, hb⟩

theorem acts_cell {w W : World} {x : Option Addr} {len b o : Nat} (h : ActsAt w x len b o) {k : Nat} (hk : k < len) : x = some ⟨b, o, none⟩ ∧ ∃ K A B : Int, (-9223372036854775808 ≤ A ∧ A ≤ 9223372036854775807) ∧ (∀ W, Below w.heap.size w W → W.cell? ⟨b, o + k * 3, none⟩ = some (.int .i64 K) ∧ W.cell? ⟨b, o + k * 3 + 1, none⟩ = some (.int .i64 A) ∧ W.cell? ⟨b, o + k * 3 + 2, none⟩ = some (.int .i64 B)) := by
  refine ⟨h.1.resolve_right (by omega), ?_⟩
  obtain ⟨K, A, B, hA, h0, h1, h2⟩ := h.2.2 k hk
  refine ⟨K, A, B, hA, fun W kb => ?_⟩
  have l := cell_lt h0
  exact ⟨(kb.cell (p := ⟨b, _, none⟩) l).trans h0, (kb.cell (p := ⟨b, _, none⟩) l).trans h1, (kb.cell (p := ⟨b, _, none⟩) l).trans h2⟩

set_option maxRecDepth 100000 in
set_option maxHeartbeats 8000000 in
theorem plays_a (N : Nat) (hN : N ≤ 300) (M : Int) (hM : M = (N : Int)) (n : Int) (h1 : n > 300) (h2 : n ≤ 65536) (h3 : (300 : Int) = M) (x : Option Addr) (len cap b o : Nat) (w : World) (hT : TB w) (HA : ActsAt w x len b o) :
    Calls Tryd.prog 5 #[.int .i64 n, .slice x len cap] w fun e w' => e = .returned (.bool true) ∧ Below w.heap.size w w' := by
  have AW := hide (bawake_c w hT)
  have TH := hide hT
  have AH := hide HA
  have hlen := HA.2.1
  have M0 : 0 ≤ M := by omega
  have M1 : M ≤ 300 := by omega
  have H3 := hide h3
  have HM := hide hM
  clear hT HA h3
  have NEW : Hid (∀ (W : World) (m : Int), m = (N : Int) → Below w.heap.size w W → Calls Tryd.prog 17 #[.int .i64 m] W fun e W' => e = .returned (.tuple #[.pointer (some ⟨W.heap.size + 1, 0, none⟩), .int .i64 0]) ∧ StB w (W.heap.size + 1) W.heap.size N (fun _ => false) W') := fun W m hm hb => by
    subst hm
    refine (new_s hb N (by omega)).mono ?_
    rintro e W' ⟨rfl, h1, _, _⟩
    exact ⟨rfl, h1⟩
  have RNEW : Hid (∀ (W : World) (m : Int), m = (N : Int) → Calls Tryd.prog 18 #[.int .i64 m] W fun e W' => e = .returned (.tuple #[.pointer (some ⟨W.heap.size + 1, 0, none⟩), .int .i64 0]) ∧ RefAt W' (W.heap.size + 1) W.heap.size N (fun _ => false) ∧ Below W.heap.size W W') := fun W m hm => by
    subst hm
    refine (rnew_c N (by omega) W).mono ?_
    rintro e W' ⟨rfl, h1, h2, _⟩
    exact ⟨rfl, h1, h2⟩
  clear hM
  go_enter Tryd.func5, Tryd.ntmps5
  go_wp2_with fail
  refine AW.out.mono ?_
  rintro e w1 ⟨rfl, hb⟩
  have B1 := hide hb
  clear AW hb
  go_wp2_with fail
  refine (NEW.out _ _ (H3.out.trans HM.out) B1.out).mono ?_
  rintro e w2 ⟨rfl, hS⟩
  have S2 := hide hS
  clear hS NEW
  go_wp2_with fail
  refine (RNEW.out _ _ (H3.out.trans HM.out)).mono ?_
  rintro e w3 ⟨rfl, hR, hb3⟩
  have S3 := hide (show St2 w (w1.heap.size + 1) w1.heap.size (w2.heap.size + 1) w2.heap.size N (fun _ => false) (fun _ => false) w3 from ⟨S2.out.1.below hb3, hR, next_bel S2.out.2.1 hb3, S2.out.2.2, S2.out.2.1.size⟩)
  clear hR hb3 S2 RNEW B1
  obtain ⟨rb, erb⟩ : ∃ rb, w2.heap.size + 1 = rb := ⟨_, rfl⟩
  obtain ⟨rh, erh⟩ : ∃ rh, w2.heap.size = rh := ⟨_, rfl⟩
  obtain ⟨a0, ea0⟩ : ∃ a0, w1.heap.size + 1 = a0 := ⟨_, rfl⟩
  obtain ⟨g0, eg0⟩ : ∃ g0, w1.heap.size = g0 := ⟨_, rfl⟩
  rw [erb, erh, ea0, eg0] at S3
  rw [erb, ea0]
  clear erb erh ea0 eg0
  go_wp2_with fail
  rw [H3.out]
  go_loopw [5, 9] (fun m i wr => ∃ (k a g : Nat) (f : Nat → Bool), k ≤ len ∧ k ≤ 60 ∧ i = .int .i64 k ∧ m = .pointer (some ⟨a, 0, none⟩) ∧ Hid (St2 w a g rb rh N f f wr)) (fun _ i _ => 60 - (intOf i).toNat)
  case atStart => exact ⟨0, a0, g0, _, by omega, by omega, rfl, rfl, S3⟩
  case round =>
    clear S3 H3
    obtain ⟨k, a, g, f, hk1, hk2, rfl, rfl, S⟩ := hrel
    by_cases hlt : k < len ∧ k < 60
    · obtain ⟨h1, h2⟩ := hlt
      have h1' : (k : Int) < len := by omega
      have h2' : (k : Int) < 60 := by omega
      obtain ⟨rfl, K, A, B, ⟨A0, A1⟩, hcell⟩ := acts_cell (W := wr) AH.out h1
      have HC := hide hcell
      obtain ⟨c0, c1, c2⟩ := hcell wr S.out.bel
      have D := hide (does_c w a g rb rh N f K A B wr S.out)
      clear hcell S
      go_wp2_with fail
      refine D.out.mono ?_
      rintro e w4 ⟨a', g', f', rfl, hS⟩
      have S4 := hide hS
      replace c1 := (HC.out w4 hS.bel).2.1
      obtain ⟨P, hP⟩ : ∃ P, nxI f' N A = P := ⟨_, rfl⟩
      obtain ⟨q, hq⟩ : ∃ q, nxO f' N A = q := ⟨_, rfl⟩
      obtain ⟨c, hc⟩ : ∃ c : Int, ((cnt f' N : Nat) : Int) = c := ⟨_, rfl⟩
      obtain ⟨z, hz⟩ : ∃ z, (decide (0 ≤ A ∧ A < N) && f' A.toNat) = z := ⟨_, rfl⟩
      have HP := hide hP
      have HQ := hide hq
      have HCC := hide hc
      have HZ := hide hz
      clear hS D c0 c2 hP hq hc hz
      go_wp2_with fail
      refine (next_s S4.out.toB TH.out A0 A1 HP.out HQ.out).mono ?_
      rintro e w5 ⟨rfl, hb⟩
      have S5 := hide (S4.out.quiet hb)
      replace c1 := (HC.out w5 S5.out.bel).2.1
      clear hb S4
      go_wp2_with fail
      refine (rnext_s S5.out.r A0 A1 HP.out HQ.out).mono ?_
      rintro e w6 ⟨rfl, rfl⟩
      have S0 : AX b (o + k * 3 + 1) A w6 := c1
      clear HP HQ
      go_upto_region 16 with fail
      refine wp_region_held_drew (S := (AX b (o + k * 3 + 1) A)) (by kernel_rfl) ?hS100 (fun hHeld => ?rest100)
      case hS100 => (first | exact S0 | exact hHeld.below hb7 | exact hHeld.below hb8 | exact hHeld)
      refine wpAnyH_take (i := 0) (oi := _) (v := ?v101) (List.getElem?_toArray.trans rfl) (by kernel_rfl) (by kernel_rfl) (by kernel_rfl) (fun _ _ _ h => h) (Or.inl ⟨by rfl, ?hy101⟩) (by assumption) ?rest101
      case hy101 => (intro wq hSw; (try simp only [AX] at hSw); go_simp; try with_reducible rfl)
      try simp only [Act.put, List.setIfInBounds_toArray, List.set_cons_zero, List.set_cons_succ]
      refine wpAnyH_take (i := 1) (oi := _) (v := ?v102) (List.getElem?_toArray.trans rfl) (by kernel_rfl) (by kernel_rfl) (by kernel_rfl) (fun _ _ _ h => h) (Or.inl ⟨by rfl, ?hy102⟩) (by assumption) ?rest102
      case hy102 => (intro wq hSw; (try simp only [AX] at hSw); go_simp; try with_reducible rfl)
      try simp only [Act.put, List.setIfInBounds_toArray, List.set_cons_zero, List.set_cons_succ]
      refine wpAnyH_take (i := 2) (oi := _) (v := ?v103) (List.getElem?_toArray.trans rfl) (by kernel_rfl) (by kernel_rfl) (by kernel_rfl) (fun _ _ _ h => h) (Or.inl ⟨by rfl, ?hy103⟩) (by assumption) ?rest103
      case hy103 => (intro wq hSw; (try simp only [AX] at hSw); go_simp; try with_reducible rfl)
      try simp only [Act.put, List.setIfInBounds_toArray, List.set_cons_zero, List.set_cons_succ]
      refine wpAnyH_take (i := 3) (oi := _) (v := ?v104) (List.getElem?_toArray.trans rfl) (by kernel_rfl) (by kernel_rfl) (by kernel_rfl) (fun _ _ _ h => h) (Or.inl ⟨by rfl, ?hy104⟩) (by assumption) ?rest104
      case hy104 => (intro wq hSw; (try simp only [AX] at hSw); go_simp; try with_reducible rfl)
      try simp only [Act.put, List.setIfInBounds_toArray, List.set_cons_zero, List.set_cons_succ]
      refine wpAnyH_take (i := 4) (oi := _) (v := ?v105) (List.getElem?_toArray.trans rfl) (by kernel_rfl) (by kernel_rfl) (by kernel_rfl) (fun _ _ _ h => h) (Or.inl ⟨by rfl, ?hy105⟩) (by assumption) ?rest105
      case hy105 => (intro wq hSw; (try simp only [AX] at hSw); go_simp; try with_reducible rfl)
      try simp only [Act.put, List.setIfInBounds_toArray, List.set_cons_zero, List.set_cons_succ]
      refine wpAnyH_take (i := 5) (oi := _) (v := ?v106) (List.getElem?_toArray.trans rfl) (by kernel_rfl) (by kernel_rfl) (by kernel_rfl) (fun _ _ _ h => h) (Or.inl ⟨by rfl, ?hy106⟩) (by assumption) ?rest106
      case hy106 => (intro wq hSw; (try simp only [AX] at hSw); go_simp; try with_reducible rfl)
      try simp only [Act.put, List.setIfInBounds_toArray, List.set_cons_zero, List.set_cons_succ]
      refine wpAnyH_take (i := 6) (oi := _) (v := ?v107) (List.getElem?_toArray.trans rfl) (by kernel_rfl) (by kernel_rfl) (by kernel_rfl) (fun _ _ _ h => h) (Or.inl ⟨by rfl, ?hy107⟩) (by assumption) ?rest107
      case hy107 => (intro wq hSw; (try simp only [AX] at hSw); go_simp; try with_reducible rfl)
      try simp only [Act.put, List.setIfInBounds_toArray, List.set_cons_zero, List.set_cons_succ]
      refine wpAnyH_take (i := 7) (oi := _) (v := ?v108) (List.getElem?_toArray.trans rfl) (by kernel_rfl) (by kernel_rfl) (by kernel_rfl) (fun _ _ _ h => h) (Or.inl ⟨by rfl, ?hy108⟩) (by assumption) ?rest108
      case hy108 => (intro wq hSw; (try simp only [AX] at hSw); go_simp; try with_reducible rfl)
      try simp only [Act.put, List.setIfInBounds_toArray, List.set_cons_zero, List.set_cons_succ]
      refine wpAnyH_take (i := 8) (oi := _) (v := ?v109) (List.getElem?_toArray.trans rfl) (by kernel_rfl) (by kernel_rfl) (by kernel_rfl) (fun _ _ _ h => h) (Or.inl ⟨by rfl, ?hy109⟩) (by assumption) ?rest109
      case hy109 => (intro wq hSw; (try simp only [AX] at hSw); go_simp; try with_reducible rfl)
      try simp only [Act.put, List.setIfInBounds_toArray, List.set_cons_zero, List.set_cons_succ]
      refine wpAnyH_take (i := 9) (oi := _) (v := ?v110) (List.getElem?_toArray.trans rfl) (by kernel_rfl) (by kernel_rfl) (by kernel_rfl) (fun _ _ _ h => h) (Or.inl ⟨by rfl, ?hy110⟩) (by assumption) ?rest110
      case hy110 => (intro wq hSw; (try simp only [AX] at hSw); go_simp; try with_reducible rfl)
      try simp only [Act.put, List.setIfInBounds_toArray, List.set_cons_zero, List.set_cons_succ]
      refine wpAnyH_take (i := 10) (oi := _) (v := ?v111) (List.getElem?_toArray.trans rfl) (by kernel_rfl) (by kernel_rfl) (by kernel_rfl) (fun _ _ _ h => h) (Or.inl ⟨by rfl, ?hy111⟩) (by assumption) ?rest111
      case hy111 => (intro wq hSw; (try simp only [AX] at hSw); go_simp; try with_reducible rfl)
      try simp only [Act.put, List.setIfInBounds_toArray, List.set_cons_zero, List.set_cons_succ]
      refine wpAnyH_take (i := 11) (oi := _) (v := ?v112) (List.getElem?_toArray.trans rfl) (by kernel_rfl) (by kernel_rfl) (by kernel_rfl) (fun _ _ _ h => h) (Or.inl ⟨by rfl, ?hy112⟩) (by assumption) ?rest112
      case hy112 => (intro wq hSw; (try simp only [AX] at hSw); go_simp; try with_reducible rfl)
      try simp only [Act.put, List.setIfInBounds_toArray, List.set_cons_zero, List.set_cons_succ]
      refine wpAnyH_take (i := 12) (oi := _) (v := ?v113) (List.getElem?_toArray.trans rfl) (by kernel_rfl) (by kernel_rfl) (by kernel_rfl) (fun _ _ _ h => h) (Or.inl ⟨by rfl, ?hy113⟩) (by assumption) ?rest113
      case hy113 => (intro wq hSw; (try simp only [AX] at hSw); go_simp; try with_reducible rfl)
      try simp only [Act.put, List.setIfInBounds_toArray, List.set_cons_zero, List.set_cons_succ]
      refine wpAnyH_take (i := 13) (oi := _) (v := ?v114) (List.getElem?_toArray.trans rfl) (by kernel_rfl) (by kernel_rfl) (by kernel_rfl) (fun _ _ _ h => h) (Or.inl ⟨by rfl, ?hy114⟩) (by assumption) ?rest114
      case hy114 => (intro wq hSw; (try simp only [AX] at hSw); go_simp; try with_reducible rfl)
      try simp only [Act.put, List.setIfInBounds_toArray, List.set_cons_zero, List.set_cons_succ]
      refine wpAnyH_take (i := 15) (oi := _) (v := ?v115) (List.getElem?_toArray.trans rfl) (by kernel_rfl) (by kernel_rfl) (by kernel_rfl) (fun _ _ _ h => h) (Or.inl ⟨by rfl, ?hy115⟩) (by assumption) ?rest115
      case hy115 => (intro wq hSw; (try simp only [AX] at hSw); go_simp; try with_reducible rfl)
      try simp only [Act.put, List.setIfInBounds_toArray, List.set_cons_zero, List.set_cons_succ]
      refine wpAnyH_ready (rs := [14]) (by kernel_rfl) (by simp) ?rdy116
      refine AllReadyH.cons (List.getElem?_toArray.trans rfl) (fun K hK => ?stp116) AllReadyH.nil
      go_simp
      go_wp2_with fail
      (refine (count_s (S5.out.quiet (Below.refl _ _).drew).toB HCC.out).mono ?_; rintro e w7 ⟨rfl, hb7⟩; have S7 := (S5.out.quiet (Below.refl _ _).drew).quiet hb7)
      go_wp2_with fail
      refine hK.out _ _ ?hSn116 (fun hHeld2 => ?rest116)
      case hSn116 => (first | exact S0 | exact hHeld.below hb7 | exact hHeld.below hb8 | exact hHeld)
      clear hK K hHeld
      have hHeld := hHeld2
      clear hHeld2
      try simp only [Act.put, List.setIfInBounds_toArray, List.set_cons_zero, List.set_cons_succ]
      refine wpAnyH_ready (rs := [16]) (by kernel_rfl) (by simp) ?rdy117
      refine AllReadyH.cons (List.getElem?_toArray.trans rfl) (fun K hK => ?stp117) AllReadyH.nil
      go_simp
      go_wp2_with fail
      (refine (rcount_c rb rh N f' _ S7.r HCC.out).mono ?_; rintro e w8 ⟨rfl, rfl⟩)
      go_wp2_with fail
      refine hK.out _ _ ?hSn117 (fun hHeld2 => ?rest117)
      case hSn117 => (first | exact S0 | exact hHeld.below hb7 | exact hHeld.below hb8 | exact hHeld)
      clear hK K hHeld
      have hHeld := hHeld2
      clear hHeld2
      try simp only [Act.put, List.setIfInBounds_toArray, List.set_cons_zero, List.set_cons_succ]
      refine wpAnyH_take (i := 17) (oi := _) (v := ?v118) (List.getElem?_toArray.trans rfl) (by kernel_rfl) (by kernel_rfl) (by kernel_rfl) (fun _ _ _ h => h) (Or.inl ⟨by rfl, ?hy118⟩) (by assumption) ?rest118
      case hy118 => (intro wq hSw; (try simp only [AX] at hSw); go_simp; try with_reducible rfl)
      try simp only [Act.put, List.setIfInBounds_toArray, List.set_cons_zero, List.set_cons_succ]
      refine wpAnyH_take (i := 18) (oi := _) (v := ?v119) (List.getElem?_toArray.trans rfl) (by kernel_rfl) (by kernel_rfl) (by kernel_rfl) (fun _ _ _ h => h) (Or.inl ⟨by rfl, ?hy119⟩) (by assumption) ?rest119
      case hy119 => (intro wq hSw; (try simp only [AX] at hSw); go_simp; try with_reducible rfl)
      try simp only [Act.put, List.setIfInBounds_toArray, List.set_cons_zero, List.set_cons_succ]
      refine wpAnyH_take (i := 19) (oi := _) (v := ?v120) (List.getElem?_toArray.trans rfl) (by kernel_rfl) (by kernel_rfl) (by kernel_rfl) (fun _ _ _ h => h) (Or.inl ⟨by rfl, ?hy120⟩) (by assumption) ?rest120
      case hy120 => (intro wq hSw; (try simp only [AX] at hSw); go_simp; try with_reducible rfl)
      try simp only [Act.put, List.setIfInBounds_toArray, List.set_cons_zero, List.set_cons_succ]
      refine wpAnyH_take (i := 20) (oi := _) (v := ?v121) (List.getElem?_toArray.trans rfl) (by kernel_rfl) (by kernel_rfl) (by kernel_rfl) (fun _ _ _ h => h) (Or.inl ⟨by rfl, ?hy121⟩) (by assumption) ?rest121
      case hy121 => (intro wq hSw; (try simp only [AX] at hSw); go_simp; try with_reducible rfl)
      try simp only [Act.put, List.setIfInBounds_toArray, List.set_cons_zero, List.set_cons_succ]
      refine wpAnyH_take (i := 21) (oi := _) (v := ?v122) (List.getElem?_toArray.trans rfl) (by kernel_rfl) (by kernel_rfl) (by kernel_rfl) (fun _ _ _ h => h) (Or.inl ⟨by rfl, ?hy122⟩) (by assumption) ?rest122
      case hy122 => (intro wq hSw; (try simp only [AX] at hSw); go_simp; try with_reducible rfl)
      try simp only [Act.put, List.setIfInBounds_toArray, List.set_cons_zero, List.set_cons_succ]
      refine wpAnyH_take (i := 22) (oi := _) (v := ?v123) (List.getElem?_toArray.trans rfl) (by kernel_rfl) (by kernel_rfl) (by kernel_rfl) (fun _ _ _ h => h) (Or.inl ⟨by rfl, ?hy123⟩) (by assumption) ?rest123
      case hy123 => (intro wq hSw; (try simp only [AX] at hSw); go_simp; try with_reducible rfl)
      try simp only [Act.put, List.setIfInBounds_toArray, List.set_cons_zero, List.set_cons_succ]
      refine wpAnyH_take (i := 23) (oi := _) (v := ?v124) (List.getElem?_toArray.trans rfl) (by kernel_rfl) (by kernel_rfl) (by kernel_rfl) (fun _ _ _ h => h) (Or.inl ⟨by rfl, ?hy124⟩) (by assumption) ?rest124
      case hy124 => (intro wq hSw; (try simp only [AX] at hSw); go_simp; try with_reducible rfl)
      try simp only [Act.put, List.setIfInBounds_toArray, List.set_cons_zero, List.set_cons_succ]
      refine wpAnyH_take (i := 24) (oi := _) (v := ?v125) (List.getElem?_toArray.trans rfl) (by kernel_rfl) (by kernel_rfl) (by kernel_rfl) (fun _ _ _ h => h) (Or.inl ⟨by rfl, ?hy125⟩) (by assumption) ?rest125
      case hy125 => (intro wq hSw; (try simp only [AX] at hSw); go_simp; try with_reducible rfl)
      try simp only [Act.put, List.setIfInBounds_toArray, List.set_cons_zero, List.set_cons_succ]
      refine wpAnyH_take (i := 25) (oi := _) (v := ?v126) (List.getElem?_toArray.trans rfl) (by kernel_rfl) (by kernel_rfl) (by kernel_rfl) (fun _ _ _ h => h) (Or.inl ⟨by rfl, ?hy126⟩) (by assumption) ?rest126
      case hy126 => (intro wq hSw; (try simp only [AX] at hSw); go_simp; try with_reducible rfl)
      try simp only [Act.put, List.setIfInBounds_toArray, List.set_cons_zero, List.set_cons_succ]
      refine wpAnyH_take (i := 27) (oi := _) (v := ?v127) (List.getElem?_toArray.trans rfl) (by kernel_rfl) (by kernel_rfl) (by kernel_rfl) (fun _ _ _ h => h) (Or.inl ⟨by rfl, ?hy127⟩) (by assumption) ?rest127
      case hy127 => (intro wq hSw; (try simp only [AX] at hSw); go_simp; try with_reducible rfl)
      try simp only [Act.put, List.setIfInBounds_toArray, List.set_cons_zero, List.set_cons_succ]
      refine wpAnyH_take (i := 28) (oi := _) (v := ?v128) (List.getElem?_toArray.trans rfl) (by kernel_rfl) (by kernel_rfl) (by kernel_rfl) (fun _ _ _ h => h) (Or.inl ⟨by rfl, ?hy128⟩) (by assumption) ?rest128
      case hy128 => (intro wq hSw; (try simp only [AX] at hSw); go_simp; try with_reducible rfl)
      try simp only [Act.put, List.setIfInBounds_toArray, List.set_cons_zero, List.set_cons_succ]
      refine wpAnyH_take (i := 29) (oi := _) (v := ?v129) (List.getElem?_toArray.trans rfl) (by kernel_rfl) (by kernel_rfl) (by kernel_rfl) (fun _ _ _ h => h) (Or.inl ⟨by rfl, ?hy129⟩) (by assumption) ?rest129
      case hy129 => (intro wq hSw; (try simp only [AX] at hSw); go_simp; try with_reducible rfl)
      try simp only [Act.put, List.setIfInBounds_toArray, List.set_cons_zero, List.set_cons_succ]
      refine wpAnyH_take (i := 30) (oi := _) (v := ?v130) (List.getElem?_toArray.trans rfl) (by kernel_rfl) (by kernel_rfl) (by kernel_rfl) (fun _ _ _ h => h) (Or.inl ⟨by rfl, ?hy130⟩) (by assumption) ?rest130
      case hy130 => (intro wq hSw; (try simp only [AX] at hSw); go_simp; try with_reducible rfl)
      try simp only [Act.put, List.setIfInBounds_toArray, List.set_cons_zero, List.set_cons_succ]
      refine wpAnyH_take (i := 31) (oi := _) (v := ?v131) (List.getElem?_toArray.trans rfl) (by kernel_rfl) (by kernel_rfl) (by kernel_rfl) (fun _ _ _ h => h) (Or.inl ⟨by rfl, ?hy131⟩) (by assumption) ?rest131
      case hy131 => (intro wq hSw; (try simp only [AX] at hSw); go_simp; try with_reducible rfl)
      try simp only [Act.put, List.setIfInBounds_toArray, List.set_cons_zero, List.set_cons_succ]
      refine wpAnyH_take (i := 32) (oi := _) (v := ?v132) (List.getElem?_toArray.trans rfl) (by kernel_rfl) (by kernel_rfl) (by kernel_rfl) (fun _ _ _ h => h) (Or.inl ⟨by rfl, ?hy132⟩) (by assumption) ?rest132
      case hy132 => (intro wq hSw; (try simp only [AX] at hSw); go_simp; try with_reducible rfl)
      try simp only [Act.put, List.setIfInBounds_toArray, List.set_cons_zero, List.set_cons_succ]
      refine wpAnyH_ready (rs := [26]) (by kernel_rfl) (by simp) ?rdy133
      refine AllReadyH.cons (List.getElem?_toArray.trans rfl) (fun K hK => ?stp133) AllReadyH.nil
      go_simp
      go_wp2_with fail
      (refine (has_s S7.toB HZ.out).mono ?_; rintro e w9 ⟨rfl, hb8⟩; have S9 := S7.quiet hb8)
      go_wp2_with fail
      refine hK.out _ _ ?hSn133 (fun hHeld2 => ?rest133)
      case hSn133 => (first | exact S0 | exact hHeld.below hb7 | exact hHeld.below hb8 | exact hHeld)
      clear hK K hHeld
      have hHeld := hHeld2
      clear hHeld2
      try simp only [Act.put, List.setIfInBounds_toArray, List.set_cons_zero, List.set_cons_succ]
      refine wpAnyH_ready (rs := [33]) (by kernel_rfl) (by simp) ?rdy134
      refine AllReadyH.cons (List.getElem?_toArray.trans rfl) (fun K hK => ?stp134) AllReadyH.nil
      go_simp
      go_wp2_with fail
      (refine (rhas_c rb rh N f' A _ S9.r HZ.out).mono ?_; rintro e w10 ⟨rfl, rfl⟩)
      go_wp2_with fail
      refine hK.out _ _ ?hSn134 (fun hHeld2 => ?rest134)
      case hSn134 => (first | exact S0 | exact hHeld.below hb7 | exact hHeld.below hb8 | exact hHeld)
      clear hK K hHeld
      have hHeld := hHeld2
      clear hHeld2
      try simp only [Act.put, List.setIfInBounds_toArray, List.set_cons_zero, List.set_cons_succ]
      refine wpAnyH_take (i := 34) (oi := _) (v := ?v135) (List.getElem?_toArray.trans rfl) (by kernel_rfl) (by kernel_rfl) (by kernel_rfl) (fun _ _ _ h => h) (Or.inl ⟨by rfl, ?hy135⟩) (by assumption) ?rest135
      case hy135 => (intro wq hSw; (try simp only [AX] at hSw); go_simp; try with_reducible rfl)
      try simp only [Act.put, List.setIfInBounds_toArray, List.set_cons_zero, List.set_cons_succ]
      refine wpAnyH_take (i := 35) (oi := _) (v := ?v136) (List.getElem?_toArray.trans rfl) (by kernel_rfl) (by kernel_rfl) (by kernel_rfl) (fun _ _ _ h => h) (Or.inl ⟨by rfl, ?hy136⟩) (by assumption) ?rest136
      case hy136 => (intro wq hSw; (try simp only [AX] at hSw); go_simp; try with_reducible rfl)
      try simp only [Act.put, List.setIfInBounds_toArray, List.set_cons_zero, List.set_cons_succ]
      refine wpAnyH_done (by kernel_rfl) ?fin100 _
      have S10 := hide S9
      clear S5 S7 S9 hb7 hb8 HCC HZ c1 S0
      go_wp2_with fail
      go_roundw
      case rel => exact ⟨k + 1, a', g', f', by omega, by omega, by go_num, rfl, S10⟩
      case measure => simp [intOf]; omega
    · have hex : ¬ (k : Int) < len ∨ ((k : Int) < len ∧ ¬ (k : Int) < 60) := by omega
      clear hlt AH
      rcases hex with hx1 | ⟨hx1, hx2⟩
      all_goals
        go_wp2_with fail
        go_loopw [16] (fun t wr => ∃ j : Nat, (j : Int) ≤ M ∧ t = .int .i64 j ∧ Hid (St2 w a g rb rh N f f wr)) (fun t _ => (M - intOf t).toNat)
        case atStart => exact ⟨0, by omega, rfl, S⟩
        case round =>
          clear S
          obtain ⟨j, hj, rfl, S⟩ := hrel
          by_cases hlt : (j : Int) < M
          · obtain ⟨z, hz⟩ : ∃ z, (decide (0 ≤ (j : Int) ∧ (j : Int) < N) && f (j : Int).toNat) = z := ⟨_, rfl⟩
            have HZ := hide hz
            clear hz
            go_wp2_with fail
            refine (has_s S.out.toB HZ.out).mono ?_
            rintro e w4 ⟨rfl, hb⟩
            have S4 := hide (S.out.quiet hb)
            clear hb S
            go_wp2_with fail
            refine (rhas_c rb rh N f j _ S4.out.r HZ.out).mono ?_
            rintro e w5 ⟨rfl, rfl⟩
            clear HZ
            go_wp2_with fail
            go_roundw
            case rel => exact ⟨j + 1, by omega, by go_num, S4⟩
            case measure => simp [intOf]; omega
          · obtain ⟨s, hs⟩ : ∃ s, bytesS N f = s := ⟨_, rfl⟩
            have SZ := hide (size_s S.out.toB)
            have BY := hide (bytes_ok a g N f wr S.out.m)
            have RY := hide (fun W (Q : RefAt W rb rh N f) => rbytes_ok rb rh N f S.out.m.behind W Q)
            rw [hs] at BY RY
            rw [← HM.out] at SZ
            clear hs
            go_wp2_with fail
            refine SZ.out.mono ?_
            rintro e w4 ⟨rfl, rfl⟩
            go_wp2_with fail
            refine BY.out.mono ?_
            rintro e w5 ⟨rfl, hb⟩
            have S5 := hide (S.out.quiet hb)
            clear hb BY SZ S
            go_wp2_with fail
            refine (RY.out _ S5.out.r).mono ?_
            rintro e w6 ⟨rfl, hb⟩
            have S6 := hide (S5.out.quiet hb)
            clear hb RY S5
            go_wp2_with fail
            go_ret
            exact ⟨by simp, S6.out.bel⟩

set_option maxRecDepth 100000 in
set_option maxHeartbeats 8000000 in
theorem plays_b (N : Nat) (hN : N ≤ 300) (M : Int) (hM : M = (N : Int)) (h1 : ¬ M > 300) (h3 : True) (x : Option Addr) (len cap b o : Nat) (w : World) (hT : TB w) (HA : ActsAt w x len b o) :
    Calls Tryd.prog 5 #[.int .i64 M, .slice x len cap] w fun e w' => e = .returned (.bool true) ∧ Below w.heap.size w w' := by
  have AW := hide (bawake_c w hT)
  have TH := hide hT
  have AH := hide HA
  have hlen := HA.2.1
  have M0 : 0 ≤ M := by omega
  have M1 : M ≤ 300 := by omega
  have H3 := hide h3
  have HM := hide hM
  clear hT HA h3
  have NEW : Hid (∀ (W : World) (m : Int), m = (N : Int) → Below w.heap.size w W → Calls Tryd.prog 17 #[.int .i64 m] W fun e W' => e = .returned (.tuple #[.pointer (some ⟨W.heap.size + 1, 0, none⟩), .int .i64 0]) ∧ StB w (W.heap.size + 1) W.heap.size N (fun _ => false) W') := fun W m hm hb => by
    subst hm
    refine (new_s hb N (by omega)).mono ?_
    rintro e W' ⟨rfl, h1, _, _⟩
    exact ⟨rfl, h1⟩
  have RNEW : Hid (∀ (W : World) (m : Int), m = (N : Int) → Calls Tryd.prog 18 #[.int .i64 m] W fun e W' => e = .returned (.tuple #[.pointer (some ⟨W.heap.size + 1, 0, none⟩), .int .i64 0]) ∧ RefAt W' (W.heap.size + 1) W.heap.size N (fun _ => false) ∧ Below W.heap.size W W') := fun W m hm => by
    subst hm
    refine (rnew_c N (by omega) W).mono ?_
    rintro e W' ⟨rfl, h1, h2, _⟩
    exact ⟨rfl, h1, h2⟩
  clear hM
  go_enter Tryd.func5, Tryd.ntmps5
  go_wp2_with fail
  refine AW.out.mono ?_
  rintro e w1 ⟨rfl, hb⟩
  have B1 := hide hb
  clear AW hb
  go_wp2_with fail
  refine (NEW.out _ _ HM.out B1.out).mono ?_
  rintro e w2 ⟨rfl, hS⟩
  have S2 := hide hS
  clear hS NEW
  go_wp2_with fail
  refine (RNEW.out _ _ HM.out).mono ?_
  rintro e w3 ⟨rfl, hR, hb3⟩
  have S3 := hide (show St2 w (w1.heap.size + 1) w1.heap.size (w2.heap.size + 1) w2.heap.size N (fun _ => false) (fun _ => false) w3 from ⟨S2.out.1.below hb3, hR, next_bel S2.out.2.1 hb3, S2.out.2.2, S2.out.2.1.size⟩)
  clear hR hb3 S2 RNEW B1
  obtain ⟨rb, erb⟩ : ∃ rb, w2.heap.size + 1 = rb := ⟨_, rfl⟩
  obtain ⟨rh, erh⟩ : ∃ rh, w2.heap.size = rh := ⟨_, rfl⟩
  obtain ⟨a0, ea0⟩ : ∃ a0, w1.heap.size + 1 = a0 := ⟨_, rfl⟩
  obtain ⟨g0, eg0⟩ : ∃ g0, w1.heap.size = g0 := ⟨_, rfl⟩
  rw [erb, erh, ea0, eg0] at S3
  rw [erb, ea0]
  clear erb erh ea0 eg0
  go_wp2_with fail
  skip
  go_loopw [5, 9] (fun m i wr => ∃ (k a g : Nat) (f : Nat → Bool), k ≤ len ∧ k ≤ 60 ∧ i = .int .i64 k ∧ m = .pointer (some ⟨a, 0, none⟩) ∧ Hid (St2 w a g rb rh N f f wr)) (fun _ i _ => 60 - (intOf i).toNat)
  case atStart => exact ⟨0, a0, g0, _, by omega, by omega, rfl, rfl, S3⟩
  case round =>
    clear S3 H3
    obtain ⟨k, a, g, f, hk1, hk2, rfl, rfl, S⟩ := hrel
    by_cases hlt : k < len ∧ k < 60
    · obtain ⟨h1, h2⟩ := hlt
      have h1' : (k : Int) < len := by omega
      have h2' : (k : Int) < 60 := by omega
      obtain ⟨rfl, K, A, B, ⟨A0, A1⟩, hcell⟩ := acts_cell (W := wr) AH.out h1
      have HC := hide hcell
      obtain ⟨c0, c1, c2⟩ := hcell wr S.out.bel
      have D := hide (does_c w a g rb rh N f K A B wr S.out)
      clear hcell S
      go_wp2_with fail
      refine D.out.mono ?_
      rintro e w4 ⟨a', g', f', rfl, hS⟩
      have S4 := hide hS
      replace c1 := (HC.out w4 hS.bel).2.1
      obtain ⟨P, hP⟩ : ∃ P, nxI f' N A = P := ⟨_, rfl⟩
      obtain ⟨q, hq⟩ : ∃ q, nxO f' N A = q := ⟨_, rfl⟩
      obtain ⟨c, hc⟩ : ∃ c : Int, ((cnt f' N : Nat) : Int) = c := ⟨_, rfl⟩
      obtain ⟨z, hz⟩ : ∃ z, (decide (0 ≤ A ∧ A < N) && f' A.toNat) = z := ⟨_, rfl⟩
      have HP := hide hP
      have HQ := hide hq
      have HCC := hide hc
      have HZ := hide hz
      clear hS D c0 c2 hP hq hc hz
      go_wp2_with fail
      refine (next_s S4.out.toB TH.out A0 A1 HP.out HQ.out).mono ?_
      rintro e w5 ⟨rfl, hb⟩
      have S5 := hide (S4.out.quiet hb)
      replace c1 := (HC.out w5 S5.out.bel).2.1
      clear hb S4
      go_wp2_with fail
      refine (rnext_s S5.out.r A0 A1 HP.out HQ.out).mono ?_
      rintro e w6 ⟨rfl, rfl⟩
      have S0 : AX b (o + k * 3 + 1) A w6 := c1
      clear HP HQ
      go_upto_region 16 with fail
      refine wp_region_held_drew (S := (AX b (o + k * 3 + 1) A)) (by kernel_rfl) ?hS200 (fun hHeld => ?rest200)
      case hS200 => (first | exact S0 | exact hHeld.below hb7 | exact hHeld.below hb8 | exact hHeld)
      refine wpAnyH_take (i := 0) (oi := _) (v := ?v201) (List.getElem?_toArray.trans rfl) (by kernel_rfl) (by kernel_rfl) (by kernel_rfl) (fun _ _ _ h => h) (Or.inl ⟨by rfl, ?hy201⟩) (by assumption) ?rest201
      case hy201 => (intro wq hSw; (try simp only [AX] at hSw); go_simp; try with_reducible rfl)
      try simp only [Act.put, List.setIfInBounds_toArray, List.set_cons_zero, List.set_cons_succ]
      refine wpAnyH_take (i := 1) (oi := _) (v := ?v202) (List.getElem?_toArray.trans rfl) (by kernel_rfl) (by kernel_rfl) (by kernel_rfl) (fun _ _ _ h => h) (Or.inl ⟨by rfl, ?hy202⟩) (by assumption) ?rest202
      case hy202 => (intro wq hSw; (try simp only [AX] at hSw); go_simp; try with_reducible rfl)
      try simp only [Act.put, List.setIfInBounds_toArray, List.set_cons_zero, List.set_cons_succ]
      refine wpAnyH_take (i := 2) (oi := _) (v := ?v203) (List.getElem?_toArray.trans rfl) (by kernel_rfl) (by kernel_rfl) (by kernel_rfl) (fun _ _ _ h => h) (Or.inl ⟨by rfl, ?hy203⟩) (by assumption) ?rest203
      case hy203 => (intro wq hSw; (try simp only [AX] at hSw); go_simp; try with_reducible rfl)
      try simp only [Act.put, List.setIfInBounds_toArray, List.set_cons_zero, List.set_cons_succ]
      refine wpAnyH_take (i := 3) (oi := _) (v := ?v204) (List.getElem?_toArray.trans rfl) (by kernel_rfl) (by kernel_rfl) (by kernel_rfl) (fun _ _ _ h => h) (Or.inl ⟨by rfl, ?hy204⟩) (by assumption) ?rest204
      case hy204 => (intro wq hSw; (try simp only [AX] at hSw); go_simp; try with_reducible rfl)
      try simp only [Act.put, List.setIfInBounds_toArray, List.set_cons_zero, List.set_cons_succ]
      refine wpAnyH_take (i := 4) (oi := _) (v := ?v205) (List.getElem?_toArray.trans rfl) (by kernel_rfl) (by kernel_rfl) (by kernel_rfl) (fun _ _ _ h => h) (Or.inl ⟨by rfl, ?hy205⟩) (by assumption) ?rest205
      case hy205 => (intro wq hSw; (try simp only [AX] at hSw); go_simp; try with_reducible rfl)
      try simp only [Act.put, List.setIfInBounds_toArray, List.set_cons_zero, List.set_cons_succ]
      refine wpAnyH_take (i := 5) (oi := _) (v := ?v206) (List.getElem?_toArray.trans rfl) (by kernel_rfl) (by kernel_rfl) (by kernel_rfl) (fun _ _ _ h => h) (Or.inl ⟨by rfl, ?hy206⟩) (by assumption) ?rest206
      case hy206 => (intro wq hSw; (try simp only [AX] at hSw); go_simp; try with_reducible rfl)
      try simp only [Act.put, List.setIfInBounds_toArray, List.set_cons_zero, List.set_cons_succ]
      refine wpAnyH_take (i := 6) (oi := _) (v := ?v207) (List.getElem?_toArray.trans rfl) (by kernel_rfl) (by kernel_rfl) (by kernel_rfl) (fun _ _ _ h => h) (Or.inl ⟨by rfl, ?hy207⟩) (by assumption) ?rest207
      case hy207 => (intro wq hSw; (try simp only [AX] at hSw); go_simp; try with_reducible rfl)
      try simp only [Act.put, List.setIfInBounds_toArray, List.set_cons_zero, List.set_cons_succ]
      refine wpAnyH_take (i := 7) (oi := _) (v := ?v208) (List.getElem?_toArray.trans rfl) (by kernel_rfl) (by kernel_rfl) (by kernel_rfl) (fun _ _ _ h => h) (Or.inl ⟨by rfl, ?hy208⟩) (by assumption) ?rest208
      case hy208 => (intro wq hSw; (try simp only [AX] at hSw); go_simp; try with_reducible rfl)
      try simp only [Act.put, List.setIfInBounds_toArray, List.set_cons_zero, List.set_cons_succ]
      refine wpAnyH_take (i := 8) (oi := _) (v := ?v209) (List.getElem?_toArray.trans rfl) (by kernel_rfl) (by kernel_rfl) (by kernel_rfl) (fun _ _ _ h => h) (Or.inl ⟨by rfl, ?hy209⟩) (by assumption) ?rest209
      case hy209 => (intro wq hSw; (try simp only [AX] at hSw); go_simp; try with_reducible rfl)
      try simp only [Act.put, List.setIfInBounds_toArray, List.set_cons_zero, List.set_cons_succ]
      refine wpAnyH_take (i := 9) (oi := _) (v := ?v210) (List.getElem?_toArray.trans rfl) (by kernel_rfl) (by kernel_rfl) (by kernel_rfl) (fun _ _ _ h => h) (Or.inl ⟨by rfl, ?hy210⟩) (by assumption) ?rest210
      case hy210 => (intro wq hSw; (try simp only [AX] at hSw); go_simp; try with_reducible rfl)
      try simp only [Act.put, List.setIfInBounds_toArray, List.set_cons_zero, List.set_cons_succ]
      refine wpAnyH_take (i := 10) (oi := _) (v := ?v211) (List.getElem?_toArray.trans rfl) (by kernel_rfl) (by kernel_rfl) (by kernel_rfl) (fun _ _ _ h => h) (Or.inl ⟨by rfl, ?hy211⟩) (by assumption) ?rest211
      case hy211 => (intro wq hSw; (try simp only [AX] at hSw); go_simp; try with_reducible rfl)
      try simp only [Act.put, List.setIfInBounds_toArray, List.set_cons_zero, List.set_cons_succ]
      refine wpAnyH_take (i := 11) (oi := _) (v := ?v212) (List.getElem?_toArray.trans rfl) (by kernel_rfl) (by kernel_rfl) (by kernel_rfl) (fun _ _ _ h => h) (Or.inl ⟨by rfl, ?hy212⟩) (by assumption) ?rest212
      case hy212 => (intro wq hSw; (try simp only [AX] at hSw); go_simp; try with_reducible rfl)
      try simp only [Act.put, List.setIfInBounds_toArray, List.set_cons_zero, List.set_cons_succ]
      refine wpAnyH_take (i := 12) (oi := _) (v := ?v213) (List.getElem?_toArray.trans rfl) (by kernel_rfl) (by kernel_rfl) (by kernel_rfl) (fun _ _ _ h => h) (Or.inl ⟨by rfl, ?hy213⟩) (by assumption) ?rest213
      case hy213 => (intro wq hSw; (try simp only [AX] at hSw); go_simp; try with_reducible rfl)
      try simp only [Act.put, List.setIfInBounds_toArray, List.set_cons_zero, List.set_cons_succ]
      refine wpAnyH_take (i := 13) (oi := _) (v := ?v214) (List.getElem?_toArray.trans rfl) (by kernel_rfl) (by kernel_rfl) (by kernel_rfl) (fun _ _ _ h => h) (Or.inl ⟨by rfl, ?hy214⟩) (by assumption) ?rest214
      case hy214 => (intro wq hSw; (try simp only [AX] at hSw); go_simp; try with_reducible rfl)
      try simp only [Act.put, List.setIfInBounds_toArray, List.set_cons_zero, List.set_cons_succ]
      refine wpAnyH_take (i := 15) (oi := _) (v := ?v215) (List.getElem?_toArray.trans rfl) (by kernel_rfl) (by kernel_rfl) (by kernel_rfl) (fun _ _ _ h => h) (Or.inl ⟨by rfl, ?hy215⟩) (by assumption) ?rest215
      case hy215 => (intro wq hSw; (try simp only [AX] at hSw); go_simp; try with_reducible rfl)
      try simp only [Act.put, List.setIfInBounds_toArray, List.set_cons_zero, List.set_cons_succ]
      refine wpAnyH_ready (rs := [14]) (by kernel_rfl) (by simp) ?rdy216
      refine AllReadyH.cons (List.getElem?_toArray.trans rfl) (fun K hK => ?stp216) AllReadyH.nil
      go_simp
      go_wp2_with fail
      (refine (count_s (S5.out.quiet (Below.refl _ _).drew).toB HCC.out).mono ?_; rintro e w7 ⟨rfl, hb7⟩; have S7 := (S5.out.quiet (Below.refl _ _).drew).quiet hb7)
      go_wp2_with fail
      refine hK.out _ _ ?hSn216 (fun hHeld2 => ?rest216)
      case hSn216 => (first | exact S0 | exact hHeld.below hb7 | exact hHeld.below hb8 | exact hHeld)
      clear hK K hHeld
      have hHeld := hHeld2
      clear hHeld2
      try simp only [Act.put, List.setIfInBounds_toArray, List.set_cons_zero, List.set_cons_succ]
      refine wpAnyH_ready (rs := [16]) (by kernel_rfl) (by simp) ?rdy217
      refine AllReadyH.cons (List.getElem?_toArray.trans rfl) (fun K hK => ?stp217) AllReadyH.nil
      go_simp
      go_wp2_with fail
      (refine (rcount_c rb rh N f' _ S7.r HCC.out).mono ?_; rintro e w8 ⟨rfl, rfl⟩)
      go_wp2_with fail
      refine hK.out _ _ ?hSn217 (fun hHeld2 => ?rest217)
      case hSn217 => (first | exact S0 | exact hHeld.below hb7 | exact hHeld.below hb8 | exact hHeld)
      clear hK K hHeld
      have hHeld := hHeld2
      clear hHeld2
      try simp only [Act.put, List.setIfInBounds_toArray, List.set_cons_zero, List.set_cons_succ]
      refine wpAnyH_take (i := 17) (oi := _) (v := ?v218) (List.getElem?_toArray.trans rfl) (by kernel_rfl) (by kernel_rfl) (by kernel_rfl) (fun _ _ _ h => h) (Or.inl ⟨by rfl, ?hy218⟩) (by assumption) ?rest218
      case hy218 => (intro wq hSw; (try simp only [AX] at hSw); go_simp; try with_reducible rfl)
      try simp only [Act.put, List.setIfInBounds_toArray, List.set_cons_zero, List.set_cons_succ]
      refine wpAnyH_take (i := 18) (oi := _) (v := ?v219) (List.getElem?_toArray.trans rfl) (by kernel_rfl) (by kernel_rfl) (by kernel_rfl) (fun _ _ _ h => h) (Or.inl ⟨by rfl, ?hy219⟩) (by assumption) ?rest219
      case hy219 => (intro wq hSw; (try simp only [AX] at hSw); go_simp; try with_reducible rfl)
      try simp only [Act.put, List.setIfInBounds_toArray, List.set_cons_zero, List.set_cons_succ]
      refine wpAnyH_take (i := 19) (oi := _) (v := ?v220) (List.getElem?_toArray.trans rfl) (by kernel_rfl) (by kernel_rfl) (by kernel_rfl) (fun _ _ _ h => h) (Or.inl ⟨by rfl, ?hy220⟩) (by assumption) ?rest220
      case hy220 => (intro wq hSw; (try simp only [AX] at hSw); go_simp; try with_reducible rfl)
      try simp only [Act.put, List.setIfInBounds_toArray, List.set_cons_zero, List.set_cons_succ]
      refine wpAnyH_take (i := 20) (oi := _) (v := ?v221) (List.getElem?_toArray.trans rfl) (by kernel_rfl) (by kernel_rfl) (by kernel_rfl) (fun _ _ _ h => h) (Or.inl ⟨by rfl, ?hy221⟩) (by assumption) ?rest221
      case hy221 => (intro wq hSw; (try simp only [AX] at hSw); go_simp; try with_reducible rfl)
      try simp only [Act.put, List.setIfInBounds_toArray, List.set_cons_zero, List.set_cons_succ]
      refine wpAnyH_take (i := 21) (oi := _) (v := ?v222) (List.getElem?_toArray.trans rfl) (by kernel_rfl) (by kernel_rfl) (by kernel_rfl) (fun _ _ _ h => h) (Or.inl ⟨by rfl, ?hy222⟩) (by assumption) ?rest222
      case hy222 => (intro wq hSw; (try simp only [AX] at hSw); go_simp; try with_reducible rfl)
      try simp only [Act.put, List.setIfInBounds_toArray, List.set_cons_zero, List.set_cons_succ]
      refine wpAnyH_take (i := 22) (oi := _) (v := ?v223) (List.getElem?_toArray.trans rfl) (by kernel_rfl) (by kernel_rfl) (by kernel_rfl) (fun _ _ _ h => h) (Or.inl ⟨by rfl, ?hy223⟩) (by assumption) ?rest223
      case hy223 => (intro wq hSw; (try simp only [AX] at hSw); go_simp; try with_reducible rfl)
      try simp only [Act.put, List.setIfInBounds_toArray, List.set_cons_zero, List.set_cons_succ]
      refine wpAnyH_take (i := 23) (oi := _) (v := ?v224) (List.getElem?_toArray.trans rfl) (by kernel_rfl) (by kernel_rfl) (by kernel_rfl) (fun _ _ _ h => h) (Or.inl ⟨by rfl, ?hy224⟩) (by assumption) ?rest224
      case hy224 => (intro wq hSw; (try simp only [AX] at hSw); go_simp; try with_reducible rfl)
      try simp only [Act.put, List.setIfInBounds_toArray, List.set_cons_zero, List.set_cons_succ]
      refine wpAnyH_take (i := 24) (oi := _) (v := ?v225) (List.getElem?_toArray.trans rfl) (by kernel_rfl) (by kernel_rfl) (by kernel_rfl) (fun _ _ _ h => h) (Or.inl ⟨by rfl, ?hy225⟩) (by assumption) ?rest225
      case hy225 => (intro wq hSw; (try simp only [AX] at hSw); go_simp; try with_reducible rfl)
      try simp only [Act.put, List.setIfInBounds_toArray, List.set_cons_zero, List.set_cons_succ]
      refine wpAnyH_take (i := 25) (oi := _) (v := ?v226) (List.getElem?_toArray.trans rfl) (by kernel_rfl) (by kernel_rfl) (by kernel_rfl) (fun _ _ _ h => h) (Or.inl ⟨by rfl, ?hy226⟩) (by assumption) ?rest226
      case hy226 => (intro wq hSw; (try simp only [AX] at hSw); go_simp; try with_reducible rfl)
      try simp only [Act.put, List.setIfInBounds_toArray, List.set_cons_zero, List.set_cons_succ]
      refine wpAnyH_take (i := 27) (oi := _) (v := ?v227) (List.getElem?_toArray.trans rfl) (by kernel_rfl) (by kernel_rfl) (by kernel_rfl) (fun _ _ _ h => h) (Or.inl ⟨by rfl, ?hy227⟩) (by assumption) ?rest227
      case hy227 => (intro wq hSw; (try simp only [AX] at hSw); go_simp; try with_reducible rfl)
      try simp only [Act.put, List.setIfInBounds_toArray, List.set_cons_zero, List.set_cons_succ]
      refine wpAnyH_take (i := 28) (oi := _) (v := ?v228) (List.getElem?_toArray.trans rfl) (by kernel_rfl) (by kernel_rfl) (by kernel_rfl) (fun _ _ _ h => h) (Or.inl ⟨by rfl, ?hy228⟩) (by assumption) ?rest228
      case hy228 => (intro wq hSw; (try simp only [AX] at hSw); go_simp; try with_reducible rfl)
      try simp only [Act.put, List.setIfInBounds_toArray, List.set_cons_zero, List.set_cons_succ]
      refine wpAnyH_take (i := 29) (oi := _) (v := ?v229) (List.getElem?_toArray.trans rfl) (by kernel_rfl) (by kernel_rfl) (by kernel_rfl) (fun _ _ _ h => h) (Or.inl ⟨by rfl, ?hy229⟩) (by assumption) ?rest229
      case hy229 => (intro wq hSw; (try simp only [AX] at hSw); go_simp; try with_reducible rfl)
      try simp only [Act.put, List.setIfInBounds_toArray, List.set_cons_zero, List.set_cons_succ]
      refine wpAnyH_take (i := 30) (oi := _) (v := ?v230) (List.getElem?_toArray.trans rfl) (by kernel_rfl) (by kernel_rfl) (by kernel_rfl) (fun _ _ _ h => h) (Or.inl ⟨by rfl, ?hy230⟩) (by assumption) ?rest230
      case hy230 => (intro wq hSw; (try simp only [AX] at hSw); go_simp; try with_reducible rfl)
      try simp only [Act.put, List.setIfInBounds_toArray, List.set_cons_zero, List.set_cons_succ]
      refine wpAnyH_take (i := 31) (oi := _) (v := ?v231) (List.getElem?_toArray.trans rfl) (by kernel_rfl) (by kernel_rfl) (by kernel_rfl) (fun _ _ _ h => h) (Or.inl ⟨by rfl, ?hy231⟩) (by assumption) ?rest231
      case hy231 => (intro wq hSw; (try simp only [AX] at hSw); go_simp; try with_reducible rfl)
      try simp only [Act.put, List.setIfInBounds_toArray, List.set_cons_zero, List.set_cons_succ]
      refine wpAnyH_take (i := 32) (oi := _) (v := ?v232) (List.getElem?_toArray.trans rfl) (by kernel_rfl) (by kernel_rfl) (by kernel_rfl) (fun _ _ _ h => h) (Or.inl ⟨by rfl, ?hy232⟩) (by assumption) ?rest232
      case hy232 => (intro wq hSw; (try simp only [AX] at hSw); go_simp; try with_reducible rfl)
      try simp only [Act.put, List.setIfInBounds_toArray, List.set_cons_zero, List.set_cons_succ]
      refine wpAnyH_ready (rs := [26]) (by kernel_rfl) (by simp) ?rdy233
      refine AllReadyH.cons (List.getElem?_toArray.trans rfl) (fun K hK => ?stp233) AllReadyH.nil
      go_simp
      go_wp2_with fail
      (refine (has_s S7.toB HZ.out).mono ?_; rintro e w9 ⟨rfl, hb8⟩; have S9 := S7.quiet hb8)
      go_wp2_with fail
      refine hK.out _ _ ?hSn233 (fun hHeld2 => ?rest233)
      case hSn233 => (first | exact S0 | exact hHeld.below hb7 | exact hHeld.below hb8 | exact hHeld)
      clear hK K hHeld
      have hHeld := hHeld2
      clear hHeld2
      try simp only [Act.put, List.setIfInBounds_toArray, List.set_cons_zero, List.set_cons_succ]
      refine wpAnyH_ready (rs := [33]) (by kernel_rfl) (by simp) ?rdy234
      refine AllReadyH.cons (List.getElem?_toArray.trans rfl) (fun K hK => ?stp234) AllReadyH.nil
      go_simp
      go_wp2_with fail
      (refine (rhas_c rb rh N f' A _ S9.r HZ.out).mono ?_; rintro e w10 ⟨rfl, rfl⟩)
      go_wp2_with fail
      refine hK.out _ _ ?hSn234 (fun hHeld2 => ?rest234)
      case hSn234 => (first | exact S0 | exact hHeld.below hb7 | exact hHeld.below hb8 | exact hHeld)
      clear hK K hHeld
      have hHeld := hHeld2
      clear hHeld2
      try simp only [Act.put, List.setIfInBounds_toArray, List.set_cons_zero, List.set_cons_succ]
      refine wpAnyH_take (i := 34) (oi := _) (v := ?v235) (List.getElem?_toArray.trans rfl) (by kernel_rfl) (by kernel_rfl) (by kernel_rfl) (fun _ _ _ h => h) (Or.inl ⟨by rfl, ?hy235⟩) (by assumption) ?rest235
      case hy235 => (intro wq hSw; (try simp only [AX] at hSw); go_simp; try with_reducible rfl)
      try simp only [Act.put, List.setIfInBounds_toArray, List.set_cons_zero, List.set_cons_succ]
      refine wpAnyH_take (i := 35) (oi := _) (v := ?v236) (List.getElem?_toArray.trans rfl) (by kernel_rfl) (by kernel_rfl) (by kernel_rfl) (fun _ _ _ h => h) (Or.inl ⟨by rfl, ?hy236⟩) (by assumption) ?rest236
      case hy236 => (intro wq hSw; (try simp only [AX] at hSw); go_simp; try with_reducible rfl)
      try simp only [Act.put, List.setIfInBounds_toArray, List.set_cons_zero, List.set_cons_succ]
      refine wpAnyH_done (by kernel_rfl) ?fin200 _
      have S10 := hide S9
      clear S5 S7 S9 hb7 hb8 HCC HZ c1 S0
      go_wp2_with fail
      go_roundw
      case rel => exact ⟨k + 1, a', g', f', by omega, by omega, by go_num, rfl, S10⟩
      case measure => simp [intOf]; omega
    · have hex : ¬ (k : Int) < len ∨ ((k : Int) < len ∧ ¬ (k : Int) < 60) := by omega
      clear hlt AH
      rcases hex with hx1 | ⟨hx1, hx2⟩
      all_goals
        go_wp2_with fail
        go_loopw [16] (fun t wr => ∃ j : Nat, (j : Int) ≤ M ∧ t = .int .i64 j ∧ Hid (St2 w a g rb rh N f f wr)) (fun t _ => (M - intOf t).toNat)
        case atStart => exact ⟨0, by omega, rfl, S⟩
        case round =>
          clear S
          obtain ⟨j, hj, rfl, S⟩ := hrel
          by_cases hlt : (j : Int) < M
          · obtain ⟨z, hz⟩ : ∃ z, (decide (0 ≤ (j : Int) ∧ (j : Int) < N) && f (j : Int).toNat) = z := ⟨_, rfl⟩
            have HZ := hide hz
            clear hz
            go_wp2_with fail
            refine (has_s S.out.toB HZ.out).mono ?_
            rintro e w4 ⟨rfl, hb⟩
            have S4 := hide (S.out.quiet hb)
            clear hb S
            go_wp2_with fail
            refine (rhas_c rb rh N f j _ S4.out.r HZ.out).mono ?_
            rintro e w5 ⟨rfl, rfl⟩
            clear HZ
            go_wp2_with fail
            go_roundw
            case rel => exact ⟨j + 1, by omega, by go_num, S4⟩
            case measure => simp [intOf]; omega
          · obtain ⟨s, hs⟩ : ∃ s, bytesS N f = s := ⟨_, rfl⟩
            have SZ := hide (size_s S.out.toB)
            have BY := hide (bytes_ok a g N f wr S.out.m)
            have RY := hide (fun W (Q : RefAt W rb rh N f) => rbytes_ok rb rh N f S.out.m.behind W Q)
            rw [hs] at BY RY
            rw [← HM.out] at SZ
            clear hs
            go_wp2_with fail
            refine SZ.out.mono ?_
            rintro e w4 ⟨rfl, rfl⟩
            go_wp2_with fail
            refine BY.out.mono ?_
            rintro e w5 ⟨rfl, hb⟩
            have S5 := hide (S.out.quiet hb)
            clear hb BY SZ S
            go_wp2_with fail
            refine (RY.out _ S5.out.r).mono ?_
            rintro e w6 ⟨rfl, hb⟩
            have S6 := hide (S5.out.quiet hb)
            clear hb RY S5
            go_wp2_with fail
            go_ret
            exact ⟨by simp, S6.out.bel⟩

theorem plays_walk (n : Int) (x : Option Addr) (len cap b o : Nat) (w : World) (hT : TB w) (HA : ActsAt w x len b o) :
    Calls Tryd.prog 5 #[.int .i64 n, .slice x len cap] w fun e w' => e = .returned (.bool true) ∧ Below w.heap.size w w' := by
  by_cases h : n < 0 ∨ 65536 < n
  · exact plays_no n h _ w hT
  · by_cases h1 : n > 300
    · exact plays_a 300 (by omega) 300 rfl n h1 (by omega) rfl x len cap b o w hT HA
    · exact plays_b n.toNat (by omega) n (by omega) h1 trivial x len cap b o w hT HA

end Go.Proofs.YtkfglbmhpdcfpaaDoor

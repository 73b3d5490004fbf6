/-
  Texts Po7, PoR of the proof.
-/
import Derived.Test.YtighdocmncbdnaaGreatDoorQGr25
import Derived.Test.YtighdocmncbdnaaGreatDoorQGr31
import Derived.Test.YtighdocmncbdnaaGreatDoorQGr45

namespace Go.Proofs.YtighdocmncbdnaaGreatDoor
open Go.ChangeShapes Go.WideShapes Go.ChangeAt Go.RowKit
set_option linter.unusedVariables false
set_option linter.unusedSimpArgs false

theorem parse6_ex : parsePF [49, 48, 46, 48, 46, 48, 46, 48, 47, 51, 48] = some (false, 167772160, 30) := by decide +kernel

theorem print6_ex1 : prA false 167772162 = ⟨#[49, 48, 46, 48, 46, 48, 46, 50]⟩ := by decide +kernel

theorem print6_ex2 : prA false 167772161 = ⟨#[49, 48, 46, 48, 46, 48, 46, 49]⟩ := by decide +kernel

theorem sz6 : szP false 167772160 30 = 4 := by decide +kernel

theorem lk6 : lkP false 30 = true := by decide +kernel

set_option maxRecDepth 100000 in
set_option maxHeartbeats 3200000 in
theorem awake6_c (w : World) (hL : LW w) (hT : TB w) : Calls Tryz.prog 15 #[] w fun e w' => e = .returned (.bool true) ∧ Below w.heap.size w w' := by
  have hz := hL.sz
  have Lx : Hid (∀ W, Below w.heap.size w W → LW W) := fun W hb => hL.of hb hz
  have Tx : Hid (∀ W, Below w.heap.size w W → TB W) := fun W hb => hT.below hb
  have n0 : IsNum 0 167772160 167772160 := ⟨by omega, by omega, by omega, by omega, rfl⟩
  have n1 : IsNum 0 167772161 167772161 := ⟨by omega, by omega, by omega, by omega, rfl⟩
  have n2 : IsNum 0 167772162 167772162 := ⟨by omega, by omega, by omega, by omega, rfl⟩
  have P1 : Hid (∀ w', LW w' → Calls Tryz.prog 10 #[.string ⟨#[49, 48, 46, 48, 46, 48, 46, 48, 47, 51, 48]⟩] w' fun e w1 => e = .returned (.tuple #[pv false 0 167772160 30, .int .i64 0]) ∧ Below w'.heap.size w' w1) := fun w' h => pparse_is _ (by decide) (Or.inl ⟨167772160, 30, parse6_ex, n0, rfl, rfl⟩) w' h
  have NW : Hid (∀ w', Calls Tryz.prog 17 #[pv false 0 167772160 30] w' fun e w1 => ∃ x a g, e = .returned (.tuple #[.pointer (some ⟨x, 0, none⟩), .int .i64 0]) ∧ PoAt w1 false 0 167772160 30 x a g 4 (kpF true 4) ∧ Below w'.heap.size w' w1 ∧ w'.heap.size ≤ x ∧ w'.heap.size ≤ g) := fun w' => by
    have := poNew_ok n0 (by rw [sz6]; decide) w'
    rw [sz6, lk6] at this
    exact this
  have X1 : Hid (∀ x a g w', TB w' → PoAt w' false 0 167772160 30 x a g 4 (kpF true 4) → Calls Tryz.prog 36 #[.pointer (some ⟨x, 0, none⟩), .int .i64 2] w' fun e w1 => e = .returned (.tuple #[av false 0 167772162, .int .i64 0]) ∧ PoAt w1 false 0 167772160 30 x a g 4 (upd (kpF true 4) 2 true) ∧ But [g] w'.heap.size w' w1) := fun x a g w' hT P => by
    have := poNext_ok (x := x) (a := a) (g := g) (f := kpF true 4) (i := 2) (p := 2) n0 (by rw [sz6]; decide) (by decide) (by decide) (by rw [sz6]; decide) n2 w' hT (by rw [sz6]; exact P)
    rw [sz6] at this
    exact this
  have X2 : Hid (∀ x a g w', TB w' → PoAt w' false 0 167772160 30 x a g 4 (upd (kpF true 4) 2 true) → Calls Tryz.prog 36 #[.pointer (some ⟨x, 0, none⟩), .int .i64 2] w' fun e w1 => e = .returned (.tuple #[av false 0 167772161, .int .i64 0]) ∧ PoAt w1 false 0 167772160 30 x a g 4 (upd (upd (kpF true 4) 2 true) 1 true) ∧ But [g] w'.heap.size w' w1) := fun x a g w' hT P => by
    have := poNext_ok (x := x) (a := a) (g := g) (f := upd (kpF true 4) 2 true) (i := 2) (p := 1) n0 (by rw [sz6]; decide) (by decide) (by decide) (by rw [sz6]; decide) n1 w' hT (by rw [sz6]; exact P)
    rw [sz6] at this
    exact this
  have X3 : Hid (∀ x a g w', TB w' → PoAt w' false 0 167772160 30 x a g 4 (upd (upd (kpF true 4) 2 true) 1 true) → Calls Tryz.prog 36 #[.pointer (some ⟨x, 0, none⟩), .int .i64 2] w' fun e w1 => e = .returned (.tuple #[av false 0 0, .int .i64 9]) ∧ Below w'.heap.size w' w1) := fun x a g w' hT P => poNext_full (by decide) (by decide) (by decide) (by decide) w' hT P
  have T1 : Hid (∀ w', LW w' → Calls Tryz.prog 52 #[av false 0 167772162] w' fun e w1 => e = .returned (.string ⟨#[49, 48, 46, 48, 46, 48, 46, 50]⟩) ∧ Below w'.heap.size w' w1) := fun w' h => print6_ex1 ▸ aprint_c n2 w' h
  have T2 : Hid (∀ w', LW w' → Calls Tryz.prog 52 #[av false 0 167772161] w' fun e w1 => e = .returned (.string ⟨#[49, 48, 46, 48, 46, 48, 46, 49]⟩) ∧ Below w'.heap.size w' w1) := fun w' h => print6_ex2 ▸ aprint_c n1 w' h
  clear n0 n1 n2 hL hT
  go_enter Tryz.func15, Tryz.ntmps15
  go_wp2_with fail
  refine (P1.out _ (Lx.out _ (by repeat (first | with_reducible exact Below.refl _ _ | with_reducible refine Below.drew ?_ | with_reducible refine Below.alloc ?_ (by first | omega | (simp <;> omega)) _ | with_reducible refine Below.setCell ?_ (by first | omega | (simp <;> omega)) _)))).mono ?_
  rintro e w1 ⟨rfl, hb1⟩
  have K1 := (Kn.of (w := w) (W := w1) (L := []) trivial hb1).push (b := w1.heap.size) (cs := [.bool false, .int .u64 0, .int .u64 167772160, .int .i64 30]) (t := 28) rfl
  have KH := hide K1
  clear P1 hb1 K1
  go_wp2_with fail
  refine (NW.out _).mono ?_
  rintro e w2 ⟨x, a, g, rfl, hP, hb, hx, hg⟩
  have B2 := hide (KH.out.below hb).bel
  have P2 := hide hP
  have G2 : Hid (w.heap.size ≤ g) := Nat.le_trans KH.out.bel.size hg
  have XX := hide (X1.out x a g w2 (Tx.out _ B2.out) hP)
  clear NW hP hb hx hg KH X1
  go_wp2_with fail
  refine XX.out.mono ?_
  rintro e w3 ⟨rfl, hP, hK⟩
  have B3 := hide (hK.to B2.out G2.out B2.out.size)
  have bl : Below w3.heap.size w3 (w3.alloc (.cells #[.bool false, .int .u64 0, .int .u64 167772162] 26)) := by repeat (first | with_reducible exact Below.refl _ _ | with_reducible refine Below.drew ?_ | with_reducible refine Below.alloc ?_ (by first | omega | (simp <;> omega)) _ | with_reducible refine Below.setCell ?_ (by first | omega | (simp <;> omega)) _)
  have B3' := hide (B3.out.trans (bl.mono B3.out.size))
  have P3' := hide (hP.below bl)
  have A3 := hide (Blk.new w3 #[.bool false, .int .u64 0, .int .u64 167772162] 26)
  have ne3 : Hid (w3.heap.size ∉ [g]) := by show _ ∉ _; have := hP.m.lt; simp; omega
  have XX2 := hide (X2.out x a g _ (Tx.out _ B3'.out) P3'.out)
  clear XX hP hK X2 bl P2 B2
  go_wp2_with fail
  refine XX2.out.mono ?_
  rintro e w4 ⟨rfl, hP, hK⟩
  have A4 := hide (hK.blk A3.out A3.out.lt ne3.out)
  have B4 := hide (hK.to B3'.out G2.out B3'.out.size)
  have bl : Below w4.heap.size w4 (w4.alloc (.cells #[.bool false, .int .u64 0, .int .u64 167772161] 26)) := by repeat (first | with_reducible exact Below.refl _ _ | with_reducible refine Below.drew ?_ | with_reducible refine Below.alloc ?_ (by first | omega | (simp <;> omega)) _ | with_reducible refine Below.setCell ?_ (by first | omega | (simp <;> omega)) _)
  have B4' := hide (B4.out.trans (bl.mono B4.out.size))
  have P4' := hide (hP.below bl)
  have A4' := hide (A4.out.below bl)
  have C4 := hide (Blk.new w4 #[.bool false, .int .u64 0, .int .u64 167772161] 26)
  have XX3 := hide (X3.out x a g _ (Tx.out _ B4'.out) P4'.out)
  clear XX2 hP hK X3 bl A3 A4 B3 B3' P3' ne3
  go_wp2_with fail
  refine XX3.out.mono ?_
  rintro e w5 ⟨rfl, hb⟩
  have A5 := A4'.out.below hb
  have C5 := C4.out.below hb
  have B5 := B4'.out.trans (hb.mono B4'.out.size)
  have K5 := ((Kn.of (w := w) (W := w5) (L := []) trivial B5).cons (cs := [.bool false, .int .u64 0, .int .u64 167772162]) A5).cons (cs := [.bool false, .int .u64 0, .int .u64 167772161]) C5
  have K6 := K5.push (b := w5.heap.size) (cs := [.bool false, .int .u64 0, .int .u64 0]) (t := 26) rfl
  have F := K6.1
  simp only [Facts, CellsAt] at F
  have KH := hide K6
  clear XX3 hb A5 C5 B5 K5 K6 A4' C4 B4' P4' B4
  go_wp2_with fail
  refine (T1.out _ (Lx.out _ KH.out.bel)).mono ?_
  rintro e w6 ⟨rfl, hb⟩
  have K7 := KH.out.below hb
  have F7 := K7.1
  simp only [Facts, CellsAt] at F7
  have KH7 := hide K7
  clear hb T1 KH K7 F
  go_wp2_with fail
  refine (T2.out _ (Lx.out _ KH7.out.bel)).mono ?_
  rintro e w7 ⟨rfl, hb⟩
  have B8 := (KH7.out.below hb).bel
  clear hb T2 KH7 F7
  go_wp2
  go_ret
  exact ⟨by first | rfl | simp, B8⟩
end Go.Proofs.YtighdocmncbdnaaGreatDoor

namespace Go.Proofs.YtighdocmncbdnaaGreatDoor
open Go.ChangeShapes Go.WideShapes Go.ChangeAt Go.RowKit
set_option linter.unusedVariables false
set_option linter.unusedSimpArgs false

/-- How many addresses the reference's pool has. -/
def cnP (v : Bool) (n : Nat) (b : Int) : Nat := if 4 ≤ szP v n b then szP v n b else 0

set_option maxRecDepth 100000 in
set_option maxHeartbeats 1600000 in
theorem rcount06_no {v : Bool} {h l b : Int} {n : Nat} (hp : IsNum h l n) (ok : okP v n b = false) (w : World) :
    Calls Tryz.prog 16 #[pv v h l b] w fun e w' => e = .returned (.int .i64 0) ∧ Below w.heap.size w w' := by
  have K := pfx_start w v h l b
  have RT : Hid (∀ w', Calls Tryz.prog 14 #[pv v h l b] w' fun e w1 => e = .returned (.bool false) ∧ Below w'.heap.size w' w1) := fun w' => ok ▸ rpright_c hp w'
  clear hp ok
  go_enter Tryz.func16, Tryz.ntmps16
  go_wp2_with fail
  refine (RT.out _).mono ?_
  rintro e w1 ⟨rfl, hb⟩
  have B := (K.below hb).bel
  clear RT hb K
  go_wp2
  go_ret
  exact ⟨rfl, B⟩

theorem pow_i (j : Nat) : ((2 ^ j : Nat) : Int) * 2 = ((2 ^ (j + 1) : Nat) : Int) := by
  rw [Nat.pow_succ]
  omega

set_option maxRecDepth 100000 in
set_option maxHeartbeats 1600000 in
theorem rcount06_ok {v : Bool} {h l b W : Int} {n K : Nat} (hW : widthA v = W) (hK : W - b = (K : Int)) (hK2 : K ≤ 128) (hb0 : 0 ≤ b) (hp : IsNum h l n) (ok : okP v n b = true) {C : Int} (hC : C = (if 16 < K then 65536 else if K < 2 then 0 else ((2 ^ K : Nat) : Int))) (w : World) :
    Calls Tryz.prog 16 #[pv v h l b] w fun e w' => e = .returned (.int .i64 C) ∧ Below w.heap.size w w' := by
  have K0 := pfx_start w v h l b
  have RT : Hid (∀ w', Calls Tryz.prog 14 #[pv v h l b] w' fun e w1 => e = .returned (.bool true) ∧ Below w'.heap.size w' w1) := fun w' => ok ▸ rpright_c hp w'
  have WD : Hid (∀ w', Calls Tryz.prog 57 #[av v h l] w' fun e w1 => e = .returned (.int .i64 W) ∧ Below w'.heap.size w' w1) := fun w' => rwidth_c v W hW h l w'
  have hw1 : IntKind.i64.wrap (W - b) = K := by rw [hK]; simp [IntKind.wrap, IntKind.bits, IntKind.signed]; omega
  have hw0 : IntKind.i64.wrap (K : Int) = K := by simp [IntKind.wrap, IntKind.bits, IntKind.signed]; omega
  have HC := hide hC
  clear hp ok hW hC hb0
  go_enter Tryz.func16, Tryz.ntmps16
  go_wp2_with fail
  refine (RT.out _).mono ?_
  rintro e w1 ⟨rfl, hb⟩
  have K1 := K0.below hb
  clear RT hb K0
  go_wp2_with fail
  refine wp_region_held_drew (S := (Kn w [(w.heap.size, [.bool v, .int .u64 h, .int .u64 l, .int .i64 b], 28)])) (by kernel_rfl) ?hS100 (fun hHeld => ?rest100)
  case hS100 => (first | with_reducible exact K1.drew | with_reducible exact hHeld.below hb4)
  refine wpAnyH_take (i := 0) (oi := _) (v := ?v101) (List.getElem?_toArray.trans rfl) (by kernel_rfl) (by kernel_rfl) (by kernel_rfl) (fun _ _ _ h => h) (Or.inl ⟨by rfl, ?hy101⟩) (by assumption) ?rest101
  case hy101 => (intro wq hSw; (try simp only [Two, Kn, Facts, CellsAt] at hSw); go_simp; try with_reducible rfl)
  try simp only [Act.put, List.setIfInBounds_toArray, List.set_cons_zero, List.set_cons_succ]
  refine wpAnyH_take (i := 1) (oi := _) (v := ?v102) (List.getElem?_toArray.trans rfl) (by kernel_rfl) (by kernel_rfl) (by kernel_rfl) (fun _ _ _ h => h) (Or.inl ⟨by rfl, ?hy102⟩) (by assumption) ?rest102
  case hy102 => (intro wq hSw; (try simp only [Two, Kn, Facts, CellsAt] at hSw); go_simp; try with_reducible rfl)
  try simp only [Act.put, List.setIfInBounds_toArray, List.set_cons_zero, List.set_cons_succ]
  refine wpAnyH_take (i := 3) (oi := _) (v := ?v103) (List.getElem?_toArray.trans rfl) (by kernel_rfl) (by kernel_rfl) (by kernel_rfl) (fun _ _ _ h => h) (Or.inl ⟨by rfl, ?hy103⟩) (by assumption) ?rest103
  case hy103 => (intro wq hSw; (try simp only [Two, Kn, Facts, CellsAt] at hSw); go_simp; try with_reducible rfl)
  try simp only [Act.put, List.setIfInBounds_toArray, List.set_cons_zero, List.set_cons_succ]
  refine wpAnyH_take (i := 4) (oi := _) (v := ?v104) (List.getElem?_toArray.trans rfl) (by kernel_rfl) (by kernel_rfl) (by kernel_rfl) (fun _ _ _ h => h) (Or.inl ⟨by rfl, ?hy104⟩) (by assumption) ?rest104
  case hy104 => (intro wq hSw; (try simp only [Two, Kn, Facts, CellsAt] at hSw); go_simp; try with_reducible rfl)
  try simp only [Act.put, List.setIfInBounds_toArray, List.set_cons_zero, List.set_cons_succ]
  refine wpAnyH_ready (rs := [2]) (by kernel_rfl) (by simp) ?rdy105
  refine AllReadyH.cons (List.getElem?_toArray.trans rfl) (fun K hK => ?stp105) AllReadyH.nil
  go_simp
  go_wp2_with fail
  (refine (WD.out _).mono ?_; rintro e w4 ⟨rfl, hb4⟩)
  go_wp2_with fail
  refine hK.out _ _ ?hSn105 (fun hHeld2 => ?rest105)
  case hSn105 => (first | with_reducible exact K1.drew | with_reducible exact hHeld.below hb4)
  clear hK K hHeld
  have hHeld := hHeld2
  clear hHeld2
  try simp only [Act.put, List.setIfInBounds_toArray, List.set_cons_zero, List.set_cons_succ]
  refine wpAnyH_take (i := 5) (oi := _) (v := (.int .i64 K)) (List.getElem?_toArray.trans rfl) (by kernel_rfl) (by kernel_rfl) (by kernel_rfl) (fun _ _ _ h => h) (Or.inl ⟨by rfl, ?hy106⟩) (by assumption) ?rest106
  case hy106 => (intro wq hSw; (try simp only [Two, Kn, Facts, CellsAt] at hSw); go_simp; (all_goals (first | exact hw0 | rw [hw1])))
  try simp only [Act.put, List.setIfInBounds_toArray, List.set_cons_zero, List.set_cons_succ]
  refine wpAnyH_take (i := 6) (oi := _) (v := ?v107) (List.getElem?_toArray.trans rfl) (by kernel_rfl) (by kernel_rfl) (by kernel_rfl) (fun _ _ _ h => h) (Or.inl ⟨by rfl, ?hy107⟩) (by assumption) ?rest107
  case hy107 => (intro wq hSw; (try simp only [Two, Kn, Facts, CellsAt] at hSw); go_simp; try with_reducible rfl)
  try simp only [Act.put, List.setIfInBounds_toArray, List.set_cons_zero, List.set_cons_succ]
  refine wpAnyH_done (by kernel_rfl) ?fin100 _
  have B := hHeld.bel
  clear hHeld hb4 K1 WD hK hw1
  by_cases h16 : 16 < K
  · have h16' : (K : Int) > 16 := by omega
    have e : C = 65536 := by rw [HC.out, if_pos h16]
    subst e
    clear HC h16
    go_wp2
    go_ret
    exact ⟨rfl, B⟩
  · have h16' : ¬ (K : Int) > 16 := by omega
    have BH := hide B
    clear B
    go_wp2_with fail
    go_loopw [4, 5] (fun nv iv wr => ∃ (j : Nat) (p : Int), j ≤ K ∧ iv = .int .i64 j ∧ nv = .int .i64 p ∧ Hid (p = ((2 ^ j : Nat) : Int)) ∧ 1 ≤ p ∧ p ≤ 65536 ∧ wr = w4) (fun _ i _ => K - (intOf i).toNat)
    case atStart => exact ⟨0, 1, by omega, rfl, rfl, rfl, by omega, by omega, rfl⟩
    case round =>
      obtain ⟨j, p, hj, rfl, rfl, hpj, p0, p1, rfl⟩ := hrel
      by_cases hlt : j < K
      · have hlt' : (j : Int) < K := by omega
        have hp2 : Hid (p * 2 = ((2 ^ (j + 1) : Nat) : Int)) := by show _ = _; rw [hpj.out]; exact pow_i j
        have q1 : p * 2 ≤ 65536 := by
          rw [hp2.out]
          have := Nat.pow_le_pow_right (n := 2) (by decide) (show j + 1 ≤ 16 by omega)
          rw [show (2 : Nat) ^ 16 = 65536 by decide] at this
          generalize 2 ^ (j + 1) = z at *
          omega
        clear hpj HC
        go_wp2
        go_roundw
        case rel => exact ⟨j + 1, p * 2, by omega, by go_num, by go_num, hp2, by omega, q1, by first | rfl | trivial⟩
        case measure => simp [intOf]; omega
      · obtain rfl : j = K := by omega
        have hlt' : ¬ (j : Int) < j := by omega
        have hc := HC.out
        rw [if_neg h16, ← hpj.out] at hc
        by_cases h2 : j < 2
        · have p4 : p < 4 := by
            rw [hpj.out]
            rcases (show j = 0 ∨ j = 1 by omega) with rfl | rfl <;> decide
          rw [if_pos h2] at hc
          subst hc
          clear HC hpj h2
          go_wp2
          go_ret
          exact ⟨rfl, BH.out⟩
        · have p4 : ¬ p < 4 := by
            rw [hpj.out]
            have := Nat.pow_le_pow_right (n := 2) (by decide) (show 2 ≤ j by omega)
            rw [show (2 : Nat) ^ 2 = 4 by decide] at this
            generalize 2 ^ j = z at *
            omega
          rw [if_neg h2] at hc
          subst hc
          clear HC hpj h2
          go_wp2
          go_ret
          exact ⟨rfl, BH.out⟩

theorem rcount06_c {v : Bool} {h l b : Int} {n : Nat} (hp : IsNum h l n) (w : World) :
    Calls Tryz.prog 16 #[pv v h l b] w fun e w' => e = .returned (.int .i64 (cnP v n b : Nat)) ∧ Below w.heap.size w w' := by
  obtain ⟨W, hW⟩ : ∃ W, widthA v = W := ⟨_, rfl⟩
  cases ok : okP v n b
  · have e : cnP v n b = 0 := by unfold cnP szP; rw [ok]; simp
    rw [e]
    exact rcount06_no hp ok w
  · obtain ⟨_, b0, b1⟩ := fitsB_parts (okP_parts ok).1
    have eb : behindP v b = (W - b).toNat := by unfold behindP; rw [hW]
    have b128 := behindP_le (v := v) b0
    refine rcount06_ok (K := behindP v b) hW (by omega) b128 b0 hp ok ?_ w
    unfold cnP szP
    rw [if_pos ok]
    by_cases c : 16 < behindP v b
    · rw [if_pos c, if_neg (by omega : ¬ behindP v b ≤ 16)]
      rfl
    · rw [if_neg c, if_pos (by omega : behindP v b ≤ 16)]
      by_cases c2 : behindP v b < 2
      · rw [if_pos c2]
        rcases (show behindP v b = 0 ∨ behindP v b = 1 by omega) with e | e <;> rw [e] <;> rfl
      · rw [if_neg c2]
        have := Nat.pow_le_pow_right (n := 2) (by decide) (show 2 ≤ behindP v b by omega)
        rw [show (2 : Nat) ^ 2 = 4 by decide] at this
        rw [if_pos this]

/-- The reference's pool. -/
structure RpAt (W : World) (base : Nat) (v : Bool) (h l b : Int) (r N : Nat) (us : List Nat) : Prop where
  is : ∃ sv, Blk W r #[.bool v, .int .u64 h, .int .u64 l, .int .i64 b, .int .i64 N, sv] 59 ∧ W.ownsRow base 3 1 sv us.length (us.map fun i : Nat => Value.int .i64 (i : Int))

theorem RpAt.below {W W' : World} {base : Nat} {v : Bool} {h l b : Int} {r N : Nat} {us : List Nat} (P : RpAt W base v h l b r N us) (k : Below W.heap.size W W') : RpAt W' base v h l b r N us := by
  obtain ⟨sv, h1, h2⟩ := P.is
  exact ⟨sv, h1.below k, own_below h2 k⟩

theorem Blk.six {W : World} {b : Nat} {x y z u s q : Value} {t : TypeId} (h : Blk W b #[x, y, z, u, s, q] t) : W.cell? ⟨b, 0, none⟩ = some x ∧ W.cell? ⟨b, 1, none⟩ = some y ∧ W.cell? ⟨b, 2, none⟩ = some z ∧ W.cell? ⟨b, 3, none⟩ = some u ∧ W.cell? ⟨b, 4, none⟩ = some s ∧ W.cell? ⟨b, 5, none⟩ = some q ∧ b < W.heap.size :=
  ⟨h.cell 0, h.cell 1, h.cell 2, h.cell 3, h.cell 4, h.cell 5, h.lt⟩

set_option maxHeartbeats 800000 in
theorem rNew06_c {v : Bool} {h l b : Int} {n : Nat} (hp : IsNum h l n) (w : World) :
    Calls Tryz.prog 18 #[pv v h l b] w fun e w' =>
      (cnP v n b = 0 ∧ e = .returned (.tuple #[.pointer none, .int .i64 1]) ∧ Below w.heap.size w w') ∨
      (¬ cnP v n b = 0 ∧ ∃ r, e = .returned (.tuple #[.pointer (some ⟨r, 0, none⟩), .int .i64 0]) ∧ RpAt w' w.heap.size v h l b r (cnP v n b) [] ∧ Below w.heap.size w w' ∧ w.heap.size ≤ r) := by
  have K0 := pfx_start w v h l b
  have CN : Hid (∀ w', Calls Tryz.prog 16 #[pv v h l b] w' fun e w1 => e = .returned (.int .i64 (cnP v n b : Nat)) ∧ Below w'.heap.size w' w1) := fun w' => rcount06_c hp w'
  generalize cnP v n b = N at *
  clear hp
  go_enter Tryz.func18, Tryz.ntmps18
  go_wp2_with fail
  refine (CN.out _).mono ?_
  rintro e w1 ⟨rfl, hb⟩
  have K1 := K0.below hb
  have F := K1.1
  simp only [Facts, CellsAt] at F
  have BH := hide K1.bel
  clear CN hb K0 K1
  by_cases c : N = 0
  · subst c
    go_wp2
    go_ret2
    first
      | exact ⟨rfl, BH.out⟩
      | exact Or.inl ⟨rfl, rfl, BH.out⟩
  · have c' : ¬ (N : Int) = 0 := by omega
    have HC := hide c
    clear c
    go_wp2
    go_ret2
    have B := BH.out
    have hs := B.size
    refine Or.inr ⟨HC.out, w1.heap.size, rfl, ⟨⟨.slice none 0 0, Blk.new _ _ _, World.ownsRow_nil _ _ _ _⟩⟩, by repeat (first | with_reducible exact Below.refl _ _ | with_reducible refine Below.drew ?_ | with_reducible refine Below.alloc ?_ (by first | omega | (simp <;> omega)) _ | with_reducible refine Below.setCell ?_ (by first | omega | (simp <;> omega)) _ | with_reducible refine Below.trans ?_ (Below.mono B (by first | omega | (simp <;> omega)))), hs⟩

/-- What Kept answers. -/
theorem kept06_is {v : Bool} {b W : Int} {N i : Nat} (hW : widthA v = W) (h0 : 0 ≤ b) (h1 : b ≤ W) : kpF (lkP v b) N i = (decide (i = 0) || (!v && decide (W - b ≤ 16) && decide (i = N - 1))) := by
  have e : (decide (W - b ≤ 16)) = decide (behindP v b ≤ 16) := by
    unfold behindP
    rw [hW]
    by_cases c : W - b ≤ 16
    · rw [decide_eq_true c, decide_eq_true (by omega)]
    · rw [decide_eq_false c, decide_eq_false (by omega)]
  unfold kpF lkP
  rw [e]

set_option maxRecDepth 100000 in
set_option maxHeartbeats 3200000 in
theorem rkept06_c {v : Bool} {h l b : Int} {base r n N i : Nat} {us : List Nat} {I : Int} (hI : I = (i : Int)) (hi : i ≤ 65536) (hN : 0 < N) (hN6 : N ≤ 65536) (hp : IsNum h l n) (ok : okP v n b = true) {t : Bool} (ht : kpF (lkP v b) N i = t) (w : World) (P : RpAt w base v h l b r N us) :
    Calls Tryz.prog 64 #[.pointer (some ⟨r, 0, none⟩), .int .i64 I] w fun e w' => e = .returned (.bool t) ∧ Below w.heap.size w w' := by
  obtain ⟨W, hW⟩ : ∃ W, widthA v = W := ⟨_, rfl⟩
  obtain ⟨_, b0, b1⟩ := fitsB_parts (okP_parts ok).1
  have WD : Hid (∀ w', Calls Tryz.prog 57 #[av v h l] w' fun e w1 => e = .returned (.int .i64 W) ∧ Below w'.heap.size w' w1) := fun w' => rwidth_c v W hW h l w'
  have hw2 := width_le v
  rw [kept06_is hW b0 (by omega)] at ht
  have hw1 : IntKind.i64.wrap (W - b) = W - b := by simp [IntKind.wrap, IntKind.bits, IntKind.signed]; omega
  have hw3 : IntKind.i64.wrap ((N : Int) - 1) = (N : Int) - 1 := by simp [IntKind.wrap, IntKind.bits, IntKind.signed]; omega
  obtain ⟨sv, hb, _⟩ := P.is
  obtain ⟨r0, r1, r2, r3, r4, r5, rl⟩ := hb.six
  have K0 : Kn w [(r, [.bool v, .int .u64 h, .int .u64 l, .int .i64 b, .int .i64 N, sv], 59)] w := (Kn.nil w).cons hb
  obtain ⟨F, hF⟩ : ∃ F, W - b = F := ⟨_, rfl⟩
  rw [hF] at ht hw1
  have HF := hide hF
  subst hI
  clear hW hp ok P hb b0 b1 hw2 hF
  have cs : (i = 0 ∧ t = true) ∨ (¬ i = 0 ∧ v = true ∧ t = false) ∨ (¬ i = 0 ∧ v = false ∧ ¬ F ≤ 16 ∧ t = false) ∨ (¬ i = 0 ∧ v = false ∧ F ≤ 16 ∧ i = N - 1 ∧ t = true) ∨ (¬ i = 0 ∧ v = false ∧ F ≤ 16 ∧ ¬ i = N - 1 ∧ t = false) := by
    by_cases c1 : i = 0
    · exact Or.inl ⟨c1, by rw [← ht]; simp [c1]⟩
    · cases v
      · by_cases c2 : F ≤ 16
        · by_cases c3 : i = N - 1
          · exact Or.inr (Or.inr (Or.inr (Or.inl ⟨c1, rfl, c2, c3, by rw [← ht]; simp [c2, c3]⟩)))
          · exact Or.inr (Or.inr (Or.inr (Or.inr ⟨c1, rfl, c2, c3, by rw [← ht]; simp [c1, c2, c3]⟩)))
        · exact Or.inr (Or.inr (Or.inl ⟨c1, rfl, c2, by rw [← ht]; simp [c1, c2]⟩))
      · exact Or.inr (Or.inl ⟨c1, rfl, by rw [← ht]; simp [c1]⟩)
  have CS := hide cs
  clear ht cs
  go_enter Tryz.func64, Tryz.ntmps64
  go_wp2_with fail
  refine wp_region_held_drew (S := (Kn w [(r, [.bool v, .int .u64 h, .int .u64 l, .int .i64 b, .int .i64 N, sv], 59)])) (by kernel_rfl) ?hS200 (fun hHeld => ?rest200)
  case hS200 => (first | with_reducible exact K0.drew | with_reducible exact hHeld.below hb4)
  refine wpAnyH_take (i := 0) (oi := _) (v := ?v201) (List.getElem?_toArray.trans rfl) (by kernel_rfl) (by kernel_rfl) (by kernel_rfl) (fun _ _ _ h => h) (Or.inl ⟨by rfl, ?hy201⟩) (by assumption) ?rest201
  case hy201 => (intro wq hSw; (try simp only [Two, Kn, Facts, CellsAt] at hSw); go_simp; try with_reducible rfl)
  try simp only [Act.put, List.setIfInBounds_toArray, List.set_cons_zero, List.set_cons_succ]
  refine wpAnyH_take (i := 1) (oi := _) (v := ?v202) (List.getElem?_toArray.trans rfl) (by kernel_rfl) (by kernel_rfl) (by kernel_rfl) (fun _ _ _ h => h) (Or.inl ⟨by rfl, ?hy202⟩) (by assumption) ?rest202
  case hy202 => (intro wq hSw; (try simp only [Two, Kn, Facts, CellsAt] at hSw); go_simp; try with_reducible rfl)
  try simp only [Act.put, List.setIfInBounds_toArray, List.set_cons_zero, List.set_cons_succ]
  refine wpAnyH_take (i := 2) (oi := _) (v := ?v203) (List.getElem?_toArray.trans rfl) (by kernel_rfl) (by kernel_rfl) (by kernel_rfl) (fun _ _ _ h => h) (Or.inl ⟨by rfl, ?hy203⟩) (by assumption) ?rest203
  case hy203 => (intro wq hSw; (try simp only [Two, Kn, Facts, CellsAt] at hSw); go_simp; try with_reducible rfl)
  try simp only [Act.put, List.setIfInBounds_toArray, List.set_cons_zero, List.set_cons_succ]
  refine wpAnyH_take (i := 3) (oi := _) (v := ?v204) (List.getElem?_toArray.trans rfl) (by kernel_rfl) (by kernel_rfl) (by kernel_rfl) (fun _ _ _ h => h) (Or.inl ⟨by rfl, ?hy204⟩) (by assumption) ?rest204
  case hy204 => (intro wq hSw; (try simp only [Two, Kn, Facts, CellsAt] at hSw); go_simp; try with_reducible rfl)
  try simp only [Act.put, List.setIfInBounds_toArray, List.set_cons_zero, List.set_cons_succ]
  refine wpAnyH_take (i := 4) (oi := _) (v := ?v205) (List.getElem?_toArray.trans rfl) (by kernel_rfl) (by kernel_rfl) (by kernel_rfl) (fun _ _ _ h => h) (Or.inl ⟨by rfl, ?hy205⟩) (by assumption) ?rest205
  case hy205 => (intro wq hSw; (try simp only [Two, Kn, Facts, CellsAt] at hSw); go_simp; try with_reducible rfl)
  try simp only [Act.put, List.setIfInBounds_toArray, List.set_cons_zero, List.set_cons_succ]
  refine wpAnyH_take (i := 6) (oi := _) (v := ?v206) (List.getElem?_toArray.trans rfl) (by kernel_rfl) (by kernel_rfl) (by kernel_rfl) (fun _ _ _ h => h) (Or.inl ⟨by rfl, ?hy206⟩) (by assumption) ?rest206
  case hy206 => (intro wq hSw; (try simp only [Two, Kn, Facts, CellsAt] at hSw); go_simp; try with_reducible rfl)
  try simp only [Act.put, List.setIfInBounds_toArray, List.set_cons_zero, List.set_cons_succ]
  refine wpAnyH_take (i := 7) (oi := _) (v := ?v207) (List.getElem?_toArray.trans rfl) (by kernel_rfl) (by kernel_rfl) (by kernel_rfl) (fun _ _ _ h => h) (Or.inl ⟨by rfl, ?hy207⟩) (by assumption) ?rest207
  case hy207 => (intro wq hSw; (try simp only [Two, Kn, Facts, CellsAt] at hSw); go_simp; try with_reducible rfl)
  try simp only [Act.put, List.setIfInBounds_toArray, List.set_cons_zero, List.set_cons_succ]
  refine wpAnyH_take (i := 8) (oi := _) (v := ?v208) (List.getElem?_toArray.trans rfl) (by kernel_rfl) (by kernel_rfl) (by kernel_rfl) (fun _ _ _ h => h) (Or.inl ⟨by rfl, ?hy208⟩) (by assumption) ?rest208
  case hy208 => (intro wq hSw; (try simp only [Two, Kn, Facts, CellsAt] at hSw); go_simp; try with_reducible rfl)
  try simp only [Act.put, List.setIfInBounds_toArray, List.set_cons_zero, List.set_cons_succ]
  refine wpAnyH_take (i := 9) (oi := _) (v := ?v209) (List.getElem?_toArray.trans rfl) (by kernel_rfl) (by kernel_rfl) (by kernel_rfl) (fun _ _ _ h => h) (Or.inl ⟨by rfl, ?hy209⟩) (by assumption) ?rest209
  case hy209 => (intro wq hSw; (try simp only [Two, Kn, Facts, CellsAt] at hSw); go_simp; try with_reducible rfl)
  try simp only [Act.put, List.setIfInBounds_toArray, List.set_cons_zero, List.set_cons_succ]
  refine wpAnyH_take (i := 10) (oi := _) (v := ?v210) (List.getElem?_toArray.trans rfl) (by kernel_rfl) (by kernel_rfl) (by kernel_rfl) (fun _ _ _ h => h) (Or.inl ⟨by rfl, ?hy210⟩) (by assumption) ?rest210
  case hy210 => (intro wq hSw; (try simp only [Two, Kn, Facts, CellsAt] at hSw); go_simp; try with_reducible rfl)
  try simp only [Act.put, List.setIfInBounds_toArray, List.set_cons_zero, List.set_cons_succ]
  refine wpAnyH_ready (rs := [5]) (by kernel_rfl) (by simp) ?rdy211
  refine AllReadyH.cons (List.getElem?_toArray.trans rfl) (fun K hK => ?stp211) AllReadyH.nil
  go_simp
  go_wp2_with fail
  (refine (WD.out _).mono ?_; rintro e w4 ⟨rfl, hb4⟩)
  go_wp2_with fail
  refine hK.out _ _ ?hSn211 (fun hHeld2 => ?rest211)
  case hSn211 => (first | with_reducible exact K0.drew | with_reducible exact hHeld.below hb4)
  clear hK K hHeld
  have hHeld := hHeld2
  clear hHeld2
  try simp only [Act.put, List.setIfInBounds_toArray, List.set_cons_zero, List.set_cons_succ]
  refine wpAnyH_take (i := 11) (oi := _) (v := (.int .i64 F)) (List.getElem?_toArray.trans rfl) (by kernel_rfl) (by kernel_rfl) (by kernel_rfl) (fun _ _ _ h => h) (Or.inl ⟨by rfl, ?hy212⟩) (by assumption) ?rest212
  case hy212 => (intro wq hSw; (try simp only [Two, Kn, Facts, CellsAt] at hSw); go_simp; (all_goals (first | (rw [HF.out, hw1]) | (simp [HF.out, hw1]))))
  try simp only [Act.put, List.setIfInBounds_toArray, List.set_cons_zero, List.set_cons_succ]
  refine wpAnyH_take (i := 12) (oi := _) (v := ?v213) (List.getElem?_toArray.trans rfl) (by kernel_rfl) (by kernel_rfl) (by kernel_rfl) (fun _ _ _ h => h) (Or.inl ⟨by rfl, ?hy213⟩) (by assumption) ?rest213
  case hy213 => (intro wq hSw; (try simp only [Two, Kn, Facts, CellsAt] at hSw); go_simp; try with_reducible rfl)
  try simp only [Act.put, List.setIfInBounds_toArray, List.set_cons_zero, List.set_cons_succ]
  refine wpAnyH_done (by kernel_rfl) ?fin200 _
  have B := hHeld.bel
  have G := hHeld.1
  simp only [Facts, CellsAt] at G
  clear hHeld K0 hb4 WD HF r0 r1 r2 r3 r4 r5
  rcases CS.out with ⟨c1, rfl⟩ | ⟨c1, rfl, rfl⟩ | ⟨c1, rfl, c2, rfl⟩ | ⟨c1, rfl, c2, c3, rfl⟩ | ⟨c1, rfl, c2, c3, rfl⟩
  · subst c1
    clear CS
    go_wp2
    go_ret
    exact ⟨by first | rfl | (simp; done) | (simp; omega) | (simp; assumption), B⟩
  · have c1' : ¬ (i : Int) = 0 := by omega
    clear CS c1
    go_wp2
    go_ret
    exact ⟨by first | rfl | (simp; done) | (simp; omega) | (simp; assumption), B⟩
  · have c1' : ¬ (i : Int) = 0 := by omega
    clear CS c1
    go_wp2
    go_ret
    exact ⟨by first | rfl | (simp; done) | (simp; omega) | (simp; assumption), B⟩
  · have c1' : ¬ (i : Int) = 0 := by omega
    have c3' : (i : Int) = (N : Int) - 1 := by omega
    clear CS c1 c3
    go_wp2
    go_ret
    exact ⟨by first | rfl | (simp; done) | (simp; omega) | (simp; assumption), B⟩
  · have c1' : ¬ (i : Int) = 0 := by omega
    have c3' : ¬ (i : Int) = (N : Int) - 1 := by omega
    clear CS c1 c3
    go_wp2
    go_ret
    exact ⟨by first | rfl | (simp; done) | (simp; omega) | (simp; assumption), B⟩
end Go.Proofs.YtighdocmncbdnaaGreatDoor

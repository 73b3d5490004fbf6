/-
  The walk of the law NumBack: it returns true for every two numbers and every shift.
-/
import Derived.Test.YtegbbankbcojkaaAwake
import Derived.Test.YtegbbankbcojkaaNumIs
import Derived.Deep.DeepCutAuto
import Derived.Deep.RegionHeld
namespace Go.Proofs.Ytegbbankbcojkaa
open Go.ChangeShapes Go.WideShapes Go.ChangeAt Go.RowKit
set_option linter.unusedVariables false
set_option linter.unusedSimpArgs false

set_option maxHeartbeats 8000000 in
theorem back_walk {ah al bh bl k : Int} {a b : Nat} (ha : IsNum ah al a) (hb : IsNum bh bl b) (w : World) :
    Calls Try.prog 6 #[nv ah al, nv bh bl, .int .i64 k] w fun e w' => e = .returned (.bool true) ∧ Below w.heap.size w w' := by
  have la := ha.lt
  have lb := hb.lt
  obtain ⟨xh, xl, hx⟩ := IsNum.ex (n := (a + b) % 340282366920938463463374607431768211456) (by omega)
  obtain ⟨zh, zl, hzn⟩ := IsNum.ex (n := 340282366920938463463374607431768211455 - a) (by omega)
  have hM : IsNum 18446744073709551615 18446744073709551615 340282366920938463463374607431768211455 := isNum_of 18446744073709551615 18446744073709551615 (by decide) (by decide)
  have cAdd := add_is ha hb hx
  have cSub : ∀ w, Calls Try.prog 10 #[nv xh xl, nv bh bl] w fun e w' => e = .returned (.tuple #[nv ah al, .bool (decide (a + b < 340282366920938463463374607431768211456))]) ∧ Below w.heap.size w w' := fun w => by
    have e : decide (b ≤ (a + b) % 340282366920938463463374607431768211456) = decide (a + b < 340282366920938463463374607431768211456) := by
      rw [decide_eq_decide]; omega
    rw [← e]
    exact sub_is hx hb (ha.cast (by omega)) w
  have cSub2 : ∀ w, Calls Try.prog 10 #[nv 18446744073709551615 18446744073709551615, nv ah al] w fun e w' => e = .returned (.tuple #[nv zh zl, .bool true]) ∧ Below w.heap.size w w' := fun w => by
    have e : decide (a ≤ 340282366920938463463374607431768211455) = true := by simp; omega
    rw [← e]
    exact sub_is hM ha (hzn.cast (by omega)) w
  have cNot := not_is ha hzn
  generalize hok : decide (a + b < 340282366920938463463374607431768211456) = ok at *
  have HA : Hid (∀ w, Calls Try.prog 8 #[nv ah al, nv bh bl] w fun e w' => e = .returned (.tuple #[nv xh xl, .bool ok]) ∧ Below w.heap.size w w') := cAdd
  have HS : Hid (∀ w, Calls Try.prog 10 #[nv xh xl, nv bh bl] w fun e w' => e = .returned (.tuple #[nv ah al, .bool ok]) ∧ Below w.heap.size w w') := cSub
  have HS2 : Hid (∀ w, Calls Try.prog 10 #[nv 18446744073709551615 18446744073709551615, nv ah al] w fun e w' => e = .returned (.tuple #[nv zh zl, .bool true]) ∧ Below w.heap.size w w') := cSub2
  have HN : Hid (∀ w, Calls Try.prog 25 #[nv ah al] w fun e w' => e = .returned (nv zh zl) ∧ Below w.heap.size w w') := cNot
  clear cAdd cSub cSub2 cNot hok hx hzn hM lb
  go_enter Try.func6, Try.ntmps6
  go_wp2_with fail
  have A : Two ((w.alloc (.cells #[.int .u64 ah, .int .u64 al] 24)).alloc (.cells #[.int .u64 bh, .int .u64 bl] 24)) w.heap.size ah al := (Two.new _ _ _ _).alloc _
  have B : Two ((w.alloc (.cells #[.int .u64 ah, .int .u64 al] 24)).alloc (.cells #[.int .u64 bh, .int .u64 bl] 24)) (w.heap.size + 1) bh bl := by simpa using Two.new (w.alloc (.cells #[.int .u64 ah, .int .u64 al] 24)) bh bl 24
  refine (awake_c _).mono ?_
  rintro e w1 ⟨rfl, hb1⟩
  have hB1 : Below w.heap.size w w1 := by repeat (first | with_reducible exact Below.refl _ _ | with_reducible refine Below.drew ?_ | with_reducible refine Below.alloc ?_ (by first | omega | (simp <;> omega)) _ | with_reducible refine Below.setCell ?_ (by first | omega | (simp <;> omega)) _ | with_reducible refine Below.trans ?_ (Below.mono hb1 (by first | omega | (simp <;> omega))))
  replace A : Two w1 (w.heap.size) ah al := Two.below (by repeat (first | with_reducible exact A | with_reducible refine Two.drew ?_ | with_reducible exact Two.new _ _ _ _ | with_reducible refine Two.alloc ?_ _)) hb1
  try clear A0 A1 A2
  obtain ⟨A0, A1, A2⟩ := id A
  replace B : Two w1 (w.heap.size + 1) bh bl := Two.below (by repeat (first | with_reducible exact B | with_reducible refine Two.drew ?_ | with_reducible exact Two.new _ _ _ _ | with_reducible refine Two.alloc ?_ _)) hb1
  try clear B0 B1 B2
  obtain ⟨B0, B1, B2⟩ := id B
  clear hb1
  go_wp2_with fail
  refine (HA.out _).mono ?_
  rintro e w2 ⟨rfl, hb2⟩
  have hB2 : Below w.heap.size w w2 := by repeat (first | with_reducible exact Below.refl _ _ | with_reducible refine Below.drew ?_ | with_reducible refine Below.alloc ?_ (by first | omega | (simp <;> omega)) _ | with_reducible refine Below.setCell ?_ (by first | omega | (simp <;> omega)) _ | with_reducible refine Below.trans ?_ (Below.mono hb2 (by first | omega | (simp <;> omega))) | with_reducible refine Below.trans ?_ (Below.mono hB1 (by first | omega | (simp <;> omega))))
  replace A : Two w2 (w.heap.size) ah al := Two.below (by repeat (first | with_reducible exact A | with_reducible refine Two.drew ?_ | with_reducible exact Two.new _ _ _ _ | with_reducible refine Two.alloc ?_ _)) hb2
  try clear A0 A1 A2
  obtain ⟨A0, A1, A2⟩ := id A
  replace B : Two w2 (w.heap.size + 1) bh bl := Two.below (by repeat (first | with_reducible exact B | with_reducible refine Two.drew ?_ | with_reducible exact Two.new _ _ _ _ | with_reducible refine Two.alloc ?_ _)) hb2
  try clear B0 B1 B2
  obtain ⟨B0, B1, B2⟩ := id B
  clear hb2 hB1
  go_wp2_with fail
  have X : Two (w2.alloc (.cells #[.int .u64 xh, .int .u64 xl] 24)) w2.heap.size xh xl := Two.new _ _ _ _
  refine (HS.out _).mono ?_
  rintro e w3 ⟨rfl, hb3⟩
  have hB3 : Below w.heap.size w w3 := by repeat (first | with_reducible exact Below.refl _ _ | with_reducible refine Below.drew ?_ | with_reducible refine Below.alloc ?_ (by first | omega | (simp <;> omega)) _ | with_reducible refine Below.setCell ?_ (by first | omega | (simp <;> omega)) _ | with_reducible refine Below.trans ?_ (Below.mono hb3 (by first | omega | (simp <;> omega))) | with_reducible refine Below.trans ?_ (Below.mono hB2 (by first | omega | (simp <;> omega))))
  replace A : Two w3 (w.heap.size) ah al := Two.below (by repeat (first | with_reducible exact A | with_reducible refine Two.drew ?_ | with_reducible exact Two.new _ _ _ _ | with_reducible refine Two.alloc ?_ _)) hb3
  try clear A0 A1 A2
  obtain ⟨A0, A1, A2⟩ := id A
  replace B : Two w3 (w.heap.size + 1) bh bl := Two.below (by repeat (first | with_reducible exact B | with_reducible refine Two.drew ?_ | with_reducible exact Two.new _ _ _ _ | with_reducible refine Two.alloc ?_ _)) hb3
  try clear B0 B1 B2
  obtain ⟨B0, B1, B2⟩ := id B
  clear hb3 hB2 X
  go_upto_region 5 with fail
  have Y : Two (w3.alloc (.cells #[.int .u64 ah, .int .u64 al] 24)) w3.heap.size ah al := Two.new _ _ _ _
  replace A : Two (w3.alloc (.cells #[.int .u64 ah, .int .u64 al] 24)) w.heap.size ah al := A.alloc _
  have hBa : Below w.heap.size w (w3.alloc (.cells #[.int .u64 ah, .int .u64 al] 24)) := hB3.alloc (Nat.le_of_lt A2) _
  go_cut [11, 12] (fun p t wc => ∃ bz : Nat, p = .pointer (some ⟨bz, 0, none⟩) ∧ t = .bool true ∧ Two wc bz zh zl ∧ Two wc w.heap.size ah al ∧ Two wc w3.heap.size ah al ∧ Below w.heap.size w wc)
  case first =>
    go_region_with (first
      | (go_at_call 24; refine (ones128 _).mono ?_; rintro e w4 ⟨rfl, hb4⟩; (first | have hB4 := Below.via hb4 hBa (Nat.le_refl _) rfl rfl rfl rfl | have hB4 := Below.via hb4 (hBa.alloc (Nat.le_of_lt A.2.2) _) (Nat.le_refl _) rfl rfl rfl rfl); obtain ⟨hc4, hf4⟩ := bcell hb4; have hz4 := hb4.size; simp at hz4; (try (have hy4 : w3.heap.size + 1 < w4.heap.size := (by omega))); (first | replace A := Two.via hb4 A rfl | replace A := Two.via hb4 (A.alloc _) rfl); (first | replace Y := Two.via hb4 Y rfl | replace Y := Two.via hb4 (Y.alloc _) rfl); obtain ⟨a40, a41, a42⟩ := id A)
      | (go_at_call 10; refine (HS2.out _).mono ?_; rintro e w5 ⟨rfl, hb5⟩; (first | have hB5 := Below.via hb5 hB4 (Nat.le_refl _) rfl rfl rfl rfl | have hB5 := Below.via hb5 (hB4.alloc (Nat.le_of_lt A.2.2) _) (Nat.le_refl _) rfl rfl rfl rfl); obtain ⟨hc5, hf5⟩ := bcell hb5; have hz5 := hb5.size; (try simp at hz5); (try (have hy5 : w4.heap.size < w5.heap.size := (by omega))); (first | replace A := Two.via hb5 A rfl | replace A := Two.via hb5 (A.alloc _) rfl); (first | replace Y := Two.via hb5 Y rfl | replace Y := Two.via hb5 (Y.alloc _) rfl); obtain ⟨a50, a51, a52⟩ := id A))
    all_goals
      go_wp2_with fail
      go_meet
      case rel =>
        have lA := A.2.2
        have lY := Y.2.2
        have l4 := hb4.size
        have l5 := hb5.size
        refine ⟨_, rfl, rfl, ?_, ?_, ?_, ?_⟩
        · first
            | with_reducible exact Two.new _ _ _ _
            | (with_reducible refine Two.put ?_ ?_ ?_; all_goals first | (simp [hc5]; done) | (simp [hc5, hc4, hy4]; done) | omega)
        · first
            | with_reducible exact A.alloc _
            | (with_reducible refine A.far ?_; omega)
        · first
            | with_reducible exact Y.alloc _
            | (with_reducible refine Y.far ?_; omega)
        · repeat (first | with_reducible exact Below.refl _ _ | with_reducible refine Below.drew ?_ | with_reducible refine Below.alloc ?_ (by first | omega | (simp <;> omega)) _ | with_reducible refine Below.setCell ?_ (by first | omega | (simp <;> omega)) _ | with_reducible refine Below.trans ?_ (Below.mono hB5 (by first | omega | (simp <;> omega))))
  case rest =>
    obtain ⟨bz, rfl, rfl, Z, A', Y', hBc⟩ := hcut
    obtain ⟨p0, p1, p2⟩ := id A'
    obtain ⟨y0, y1, y2⟩ := id Y'
    obtain ⟨z0, z1, z2⟩ := id Z
    clear A0 A1 A2 B0 B1 B2 A B Y hB3 hBa HA HS HS2
    go_upto_region 6 with fail
    go_cut [50] (fun t wd => t = .bool false ∧ Two wd w.heap.size ah al ∧ Below w.heap.size w wd)
    case first =>
      go_region_with (go_at_call 25; refine (HN.out _).mono ?_; rintro e w4 ⟨rfl, hb4⟩; have hB4 := Below.via hb4 hBc (Nat.le_refl _) rfl rfl rfl rfl; replace A' := Two.via hb4 A' rfl; replace Z := Two.via hb4 Z rfl; replace Y' := Two.via hb4 Y' rfl; obtain ⟨q0, q1, q2⟩ := id A'; obtain ⟨r0, r1, r2⟩ := id Z; obtain ⟨s0, s1, s2⟩ := id Y')
      all_goals
        go_wp2_with fail
        go_meet
        case rel => exact ⟨rfl, A', hB4⟩
    case rest =>
      obtain ⟨rfl, D, hBd⟩ := hcut
      obtain ⟨d0, d1, d2⟩ := id D
      clear p0 p1 p2 y0 y1 y2 z0 z1 z2 A' Y' Z hBc HN
      have kk := i64_and127 k
      obtain ⟨K, hK⟩ : ∃ K : Int, k % 128 = K := ⟨_, rfl⟩
      rw [hK] at kk
      obtain ⟨K0, K1⟩ : 0 ≤ K ∧ K < 128 := by omega
      clear hK
      obtain ⟨n, hn⟩ : ∃ n : Int, n = (Go.bitLen a : Nat) := ⟨_, rfl⟩
      have n1 : Go.bitLen a ≤ 128 := bitLen_le_of_lt (by rw [show 2 ^ 128 = 340282366920938463463374607431768211456 by decide]; exact la)
      have n0 : 0 ≤ n ∧ n ≤ 128 := by omega
      have HL : Hid (∀ w, Calls Try.prog 26 #[nv ah al] w fun e w' => e = .returned (.int .i64 n) ∧ Below w.heap.size w w') := fun w => len_is ha hn w
      have Hn : Hid (n = (Go.bitLen a : Nat)) := hn
      clear hn n1
      go_wp2_with fail
      refine (HL.out _).mono ?_
      rintro e w5 ⟨rfl, hb5⟩
      have hB5 := Below.via hb5 hBd (Nat.le_refl _) rfl rfl rfl rfl
      replace D := Two.via hb5 D rfl
      obtain ⟨e0, e1, e2⟩ := id D
      clear d0 d1 d2 hb5 hBd
      by_cases hgt : 128 < n + K
      · go_wp2
        go_ret
        exact ⟨rfl, hB5⟩
      · have hle : n + K ≤ 128 := by omega
        clear hgt
        have bl := Go.bitLen_spec a
        have hn := Hn.out
        have lt : a * 2 ^ K.toNat < 340282366920938463463374607431768211456 := by
          have h1 : a * 2 ^ K.toNat < 2 ^ Go.bitLen a * 2 ^ K.toNat := Nat.mul_lt_mul_of_pos_right bl.1 (pow_pos2 _)
          rw [← Nat.pow_add] at h1
          have h2 : 2 ^ (Go.bitLen a + K.toNat) ≤ 2 ^ 128 := Nat.pow_le_pow_right (by decide) (by omega)
          rw [show 2 ^ 128 = 340282366920938463463374607431768211456 by decide] at h2
          omega
        obtain ⟨sh, sl, hs⟩ := IsNum.ex (n := a * 2 ^ K.toNat) lt
        obtain ⟨m, hm⟩ : ∃ m : Int, m = (Go.bitLen (a * 2 ^ K.toNat) : Nat) := ⟨_, rfl⟩
        have HSL : Hid (∀ w, Calls Try.prog 28 #[nv ah al, .int .i64 K] w fun e w' => e = .returned (nv sh sl) ∧ Below w.heap.size w w') := fun w => shl_is ha K0 (hs.cast (Nat.mod_eq_of_lt lt).symm) w
        have HSR : Hid (∀ w, Calls Try.prog 27 #[nv sh sl, .int .i64 K] w fun e w' => e = .returned (nv ah al) ∧ Below w.heap.size w w') := fun w => shr_is hs K0 K1 (ha.cast (Nat.mul_div_cancel _ (pow_pos2 _)).symm) w
        have HLS : Hid (∀ w, Calls Try.prog 26 #[nv sh sl] w fun e w' => e = .returned (.int .i64 m) ∧ Below w.heap.size w w') := fun w => len_is hs hm w
        have key : a ≠ 0 → m = n + K := by
          intro h0
          have h1 := bl.2 h0
          have : Go.bitLen (a * 2 ^ K.toNat) = Go.bitLen a + K.toNat := by
            have hd : a * 2 ^ K.toNat / 2 ^ K.toNat = a := Nat.mul_div_cancel _ (pow_pos2 _)
            rw [Go.bitLen_shift _ K.toNat (by rw [hd]; exact h0), hd]
            omega
          omega
        have hwr : IntKind.i64.wrap (n + K) = n + K := by simp [IntKind.wrap, IntKind.bits, IntKind.signed]; omega
        by_cases h0 : m = n + K
        · have hmn : (m == IntKind.i64.wrap (n + K)) = true := by rw [hwr]; simpa using h0
          clear key h0 bl lt hs hn hm ha la hwr
          go_wp2_with fail
          refine wp_region_held_drew (S := (fun wx => wx.cell? ⟨w.heap.size, 0, none⟩ = some (.int .u64 ah) ∧ wx.cell? ⟨w.heap.size, 1, none⟩ = some (.int .u64 al) ∧ w.heap.size < wx.heap.size ∧ Below w.heap.size w wx)) (by kernel_rfl) ?hS0 (fun hHeld => ?rest0)
          case hS0 => (first | exact ⟨e0, e1, e2, hB5.drew⟩ | assumption)
          refine wpAnyH_take (i := 0) (oi := _) (v := ?v1) (List.getElem?_toArray.trans rfl) (by kernel_rfl) (by kernel_rfl) (by kernel_rfl) (fun _ _ _ h => h) (Or.inl ⟨by rfl, ?hy1⟩) (by assumption) ?rest1
          case hy1 => (intro wq hSw; (try dsimp only at hSw); go_simp; try with_reducible rfl)
          try simp only [Act.put, List.setIfInBounds_toArray, List.set_cons_zero, List.set_cons_succ]
          refine wpAnyH_take (i := 1) (oi := _) (v := ?v2) (List.getElem?_toArray.trans rfl) (by kernel_rfl) (by kernel_rfl) (by kernel_rfl) (fun _ _ _ h => h) (Or.inl ⟨by rfl, ?hy2⟩) (by assumption) ?rest2
          case hy2 => (intro wq hSw; (try dsimp only at hSw); go_simp; try with_reducible rfl)
          try simp only [Act.put, List.setIfInBounds_toArray, List.set_cons_zero, List.set_cons_succ]
          refine wpAnyH_take (i := 3) (oi := _) (v := ?v3) (List.getElem?_toArray.trans rfl) (by kernel_rfl) (by kernel_rfl) (by kernel_rfl) (fun _ _ _ h => h) (Or.inl ⟨by rfl, ?hy3⟩) (by assumption) ?rest3
          case hy3 => (intro wq hSw; (try dsimp only at hSw); go_simp; try with_reducible rfl)
          try simp only [Act.put, List.setIfInBounds_toArray, List.set_cons_zero, List.set_cons_succ]
          refine wpAnyH_take (i := 5) (oi := _) (v := ?v4) (List.getElem?_toArray.trans rfl) (by kernel_rfl) (by kernel_rfl) (by kernel_rfl) (fun _ _ _ h => h) (Or.inl ⟨by rfl, ?hy4⟩) (by assumption) ?rest4
          case hy4 => (intro wq hSw; (try dsimp only at hSw); go_simp; try with_reducible rfl)
          try simp only [Act.put, List.setIfInBounds_toArray, List.set_cons_zero, List.set_cons_succ]
          refine wpAnyH_ready (rs := [2]) (by kernel_rfl) (by simp) ?rdy5
          refine AllReadyH.cons (List.getElem?_toArray.trans rfl) (fun K hK => ?stp5) AllReadyH.nil
          go_simp
          go_wp2_with fail
          (refine (HSL.out _).mono ?_; rintro e w6 ⟨rfl, hb6⟩; have hk6 := keepS hb6 (Nat.le_refl _) (by assumption))
          go_wp2_with fail
          refine hK.out _ _ ?hSn5 (fun hHeld2 => ?rest5)
          case hSn5 => (first | exact ⟨e0, e1, e2, hB5.drew⟩ | assumption)
          clear hK K hHeld
          have hHeld := hHeld2
          clear hHeld2
          try simp only [Act.put, List.setIfInBounds_toArray, List.set_cons_zero, List.set_cons_succ]
          refine wpAnyH_ready (rs := [4]) (by kernel_rfl) (by simp) ?rdy6
          refine AllReadyH.cons (List.getElem?_toArray.trans rfl) (fun K hK => ?stp6) AllReadyH.nil
          go_simp
          go_wp2_with fail
          (refine (HSR.out _).mono ?_; rintro e w6 ⟨rfl, hb6⟩; have hk6 := keepS hb6 (Nat.le_refl _) (by assumption))
          go_wp2_with fail
          refine hK.out _ _ ?hSn6 (fun hHeld2 => ?rest6)
          case hSn6 => (first | exact ⟨e0, e1, e2, hB5.drew⟩ | assumption)
          clear hK K hHeld
          have hHeld := hHeld2
          clear hHeld2
          try simp only [Act.put, List.setIfInBounds_toArray, List.set_cons_zero, List.set_cons_succ]
          refine wpAnyH_take (i := 6) (oi := _) (v := ?v7) (List.getElem?_toArray.trans rfl) (by kernel_rfl) (by kernel_rfl) (by kernel_rfl) (fun _ _ _ h => h) (Or.inl ⟨by rfl, ?hy7⟩) (by assumption) ?rest7
          case hy7 => (intro wq hSw; (try dsimp only at hSw); go_simp; try with_reducible rfl)
          try simp only [Act.put, List.setIfInBounds_toArray, List.set_cons_zero, List.set_cons_succ]
          refine wpAnyH_take (i := 7) (oi := _) (v := ?v8) (List.getElem?_toArray.trans rfl) (by kernel_rfl) (by kernel_rfl) (by kernel_rfl) (fun _ _ _ h => h) (Or.inl ⟨by rfl, ?hy8⟩) (by assumption) ?rest8
          case hy8 => (intro wq hSw; (try dsimp only at hSw); go_simp; try with_reducible rfl)
          try simp only [Act.put, List.setIfInBounds_toArray, List.set_cons_zero, List.set_cons_succ]
          refine wpAnyH_take (i := 8) (oi := _) (v := ?v9) (List.getElem?_toArray.trans rfl) (by kernel_rfl) (by kernel_rfl) (by kernel_rfl) (fun _ _ _ h => h) (Or.inl ⟨by rfl, ?hy9⟩) (by assumption) ?rest9
          case hy9 => (intro wq hSw; (try dsimp only at hSw); go_simp; try with_reducible rfl)
          try simp only [Act.put, List.setIfInBounds_toArray, List.set_cons_zero, List.set_cons_succ]
          refine wpAnyH_take (i := 9) (oi := _) (v := ?v10) (List.getElem?_toArray.trans rfl) (by kernel_rfl) (by kernel_rfl) (by kernel_rfl) (fun _ _ _ h => h) (Or.inl ⟨by rfl, ?hy10⟩) (by assumption) ?rest10
          case hy10 => (intro wq hSw; (try dsimp only at hSw); go_simp; try with_reducible rfl)
          try simp only [Act.put, List.setIfInBounds_toArray, List.set_cons_zero, List.set_cons_succ]
          refine wpAnyH_take (i := 12) (oi := _) (v := ?v11) (List.getElem?_toArray.trans rfl) (by kernel_rfl) (by kernel_rfl) (by kernel_rfl) (fun _ _ _ h => h) (Or.inl ⟨by rfl, ?hy11⟩) (by assumption) ?rest11
          case hy11 => (intro wq hSw; (try dsimp only at hSw); go_simp; try with_reducible rfl)
          try simp only [Act.put, List.setIfInBounds_toArray, List.set_cons_zero, List.set_cons_succ]
          refine wpAnyH_take (i := 14) (oi := _) (v := ?v12) (List.getElem?_toArray.trans rfl) (by kernel_rfl) (by kernel_rfl) (by kernel_rfl) (fun _ _ _ h => h) (Or.inl ⟨by rfl, ?hy12⟩) (by assumption) ?rest12
          case hy12 => (intro wq hSw; (try dsimp only at hSw); go_simp; try with_reducible rfl)
          try simp only [Act.put, List.setIfInBounds_toArray, List.set_cons_zero, List.set_cons_succ]
          refine wpAnyH_ready (rs := [10]) (by kernel_rfl) (by simp) ?rdy13
          refine AllReadyH.cons (List.getElem?_toArray.trans rfl) (fun K hK => ?stp13) AllReadyH.nil
          go_simp
          go_wp2_with fail
          (refine (HSL.out _).mono ?_; rintro e w6 ⟨rfl, hb6⟩; have hk6 := keepS hb6 (Nat.le_refl _) (by assumption))
          go_wp2_with fail
          refine hK.out _ _ ?hSn13 (fun hHeld2 => ?rest13)
          case hSn13 => (first | exact ⟨e0, e1, e2, hB5.drew⟩ | assumption)
          clear hK K hHeld
          have hHeld := hHeld2
          clear hHeld2
          try simp only [Act.put, List.setIfInBounds_toArray, List.set_cons_zero, List.set_cons_succ]
          refine wpAnyH_ready (rs := [11]) (by kernel_rfl) (by simp) ?rdy14
          refine AllReadyH.cons (List.getElem?_toArray.trans rfl) (fun K hK => ?stp14) AllReadyH.nil
          go_simp
          go_wp2_with fail
          (refine (HLS.out _).mono ?_; rintro e w6 ⟨rfl, hb6⟩; have hk6 := keepS hb6 (Nat.le_refl _) (by assumption))
          go_wp2_with fail
          refine hK.out _ _ ?hSn14 (fun hHeld2 => ?rest14)
          case hSn14 => (first | exact ⟨e0, e1, e2, hB5.drew⟩ | assumption)
          clear hK K hHeld
          have hHeld := hHeld2
          clear hHeld2
          try simp only [Act.put, List.setIfInBounds_toArray, List.set_cons_zero, List.set_cons_succ]
          refine wpAnyH_ready (rs := [13]) (by kernel_rfl) (by simp) ?rdy15
          refine AllReadyH.cons (List.getElem?_toArray.trans rfl) (fun K hK => ?stp15) AllReadyH.nil
          go_simp
          go_wp2_with fail
          (refine (HL.out _).mono ?_; rintro e w6 ⟨rfl, hb6⟩; have hk6 := keepS hb6 (Nat.le_refl _) (by assumption))
          go_wp2_with fail
          refine hK.out _ _ ?hSn15 (fun hHeld2 => ?rest15)
          case hSn15 => (first | exact ⟨e0, e1, e2, hB5.drew⟩ | assumption)
          clear hK K hHeld
          have hHeld := hHeld2
          clear hHeld2
          try simp only [Act.put, List.setIfInBounds_toArray, List.set_cons_zero, List.set_cons_succ]
          refine wpAnyH_take (i := 15) (oi := _) (v := ?v16) (List.getElem?_toArray.trans rfl) (by kernel_rfl) (by kernel_rfl) (by kernel_rfl) (fun _ _ _ h => h) (Or.inl ⟨by rfl, ?hy16⟩) (by assumption) ?rest16
          case hy16 => (intro wq hSw; (try dsimp only at hSw); go_simp; try with_reducible rfl)
          try simp only [Act.put, List.setIfInBounds_toArray, List.set_cons_zero, List.set_cons_succ]
          refine wpAnyH_take (i := 16) (oi := _) (v := ?v17) (List.getElem?_toArray.trans rfl) (by kernel_rfl) (by kernel_rfl) (by kernel_rfl) (fun _ _ _ h => h) (Or.inl ⟨by rfl, ?hy17⟩) (by assumption) ?rest17
          case hy17 => (intro wq hSw; (try dsimp only at hSw); go_simp; try with_reducible rfl)
          try simp only [Act.put, List.setIfInBounds_toArray, List.set_cons_zero, List.set_cons_succ]
          refine wpAnyH_take (i := 17) (oi := _) (v := ?v18) (List.getElem?_toArray.trans rfl) (by kernel_rfl) (by kernel_rfl) (by kernel_rfl) (fun _ _ _ h => h) (Or.inl ⟨by rfl, ?hy18⟩) (by assumption) ?rest18
          case hy18 => (intro wq hSw; (try dsimp only at hSw); go_simp; try with_reducible rfl)
          try simp only [Act.put, List.setIfInBounds_toArray, List.set_cons_zero, List.set_cons_succ]
          refine wpAnyH_take (i := 18) (oi := _) (v := ?v19) (List.getElem?_toArray.trans rfl) (by kernel_rfl) (by kernel_rfl) (by kernel_rfl) (fun _ _ _ h => h) (Or.inl ⟨by rfl, ?hy19⟩) (by assumption) ?rest19
          case hy19 => (intro wq hSw; (try dsimp only at hSw); go_simp; try with_reducible rfl)
          try simp only [Act.put, List.setIfInBounds_toArray, List.set_cons_zero, List.set_cons_succ]
          refine wpAnyH_take (i := 19) (oi := _) (v := undef) (List.getElem?_toArray.trans rfl) (by kernel_rfl) (by kernel_rfl) (by kernel_rfl) (fun _ _ _ h => h) (Or.inr ⟨by rfl, rfl⟩) (by assumption) ?rest20
          try simp only [Act.put, List.setIfInBounds_toArray, List.set_cons_zero, List.set_cons_succ]
          refine wpAnyH_take (i := 20) (oi := _) (v := undef) (List.getElem?_toArray.trans rfl) (by kernel_rfl) (by kernel_rfl) (by kernel_rfl) (fun _ _ _ h => h) (Or.inr ⟨by rfl, rfl⟩) (by assumption) ?rest21
          try simp only [Act.put, List.setIfInBounds_toArray, List.set_cons_zero, List.set_cons_succ]
          refine wpAnyH_take (i := 21) (oi := _) (v := undef) (List.getElem?_toArray.trans rfl) (by kernel_rfl) (by kernel_rfl) (by kernel_rfl) (fun _ _ _ h => h) (Or.inr ⟨by rfl, rfl⟩) (by assumption) ?rest22
          try simp only [Act.put, List.setIfInBounds_toArray, List.set_cons_zero, List.set_cons_succ]
          refine wpAnyH_take (i := 22) (oi := _) (v := ?v23) (List.getElem?_toArray.trans rfl) (by kernel_rfl) (by kernel_rfl) (by kernel_rfl) (fun _ _ _ h => h) (Or.inl ⟨by rfl, ?hy23⟩) (by assumption) ?rest23
          case hy23 => (intro wq hSw; (try dsimp only at hSw); go_simp; try with_reducible rfl)
          try simp only [Act.put, List.setIfInBounds_toArray, List.set_cons_zero, List.set_cons_succ]
          refine wpAnyH_take (i := 23) (oi := _) (v := ?v24) (List.getElem?_toArray.trans rfl) (by kernel_rfl) (by kernel_rfl) (by kernel_rfl) (fun _ _ _ h => h) (Or.inl ⟨by rfl, ?hy24⟩) (by assumption) ?rest24
          case hy24 => (intro wq hSw; (try dsimp only at hSw); go_simp; try with_reducible rfl)
          try simp only [Act.put, List.setIfInBounds_toArray, List.set_cons_zero, List.set_cons_succ]
          refine wpAnyH_done (by kernel_rfl) ?fin _
          go_wp2
          go_ret
          exact ⟨by first | rfl | simp, hHeld.2.2.2⟩
        · have a0 : a = 0 := by
            apply Decidable.byContradiction
            intro c
            exact h0 (key c)
          obtain ⟨rfl, rfl⟩ : ah = 0 ∧ al = 0 := by
            have := ha.h0; have := ha.l0; have := ha.eq; omega
          have hmn : (m == IntKind.i64.wrap (n + K)) = false := by rw [hwr]; simpa using h0
          clear key h0 bl lt hs hn hm ha la hwr
          go_wp2_with fail
          go_region_held (fun wx => wx.cell? ⟨w.heap.size, 0, none⟩ = some (.int .u64 0) ∧ wx.cell? ⟨w.heap.size, 1, none⟩ = some (.int .u64 0) ∧ w.heap.size < wx.heap.size ∧ Below w.heap.size w wx) (first | (simp [*]; done) | assumption | exact ⟨e0, e1, e2, hB5.drew⟩) (first
            | (go_at_call 28; refine (HSL.out _).mono ?_; rintro e w6 ⟨rfl, hb6⟩; have hk6 := keepS hb6 (Nat.le_refl _) (by assumption))
            | (go_at_call 27; refine (HSR.out _).mono ?_; rintro e w6 ⟨rfl, hb6⟩; have hk6 := keepS hb6 (Nat.le_refl _) (by assumption))
            | (go_at_call_of 26 sh; refine (HLS.out _).mono ?_; rintro e w6 ⟨rfl, hb6⟩; have hk6 := keepS hb6 (Nat.le_refl _) (by assumption))
            | (go_at_call 26; refine (HL.out _).mono ?_; rintro e w6 ⟨rfl, hb6⟩; have hk6 := keepS hb6 (Nat.le_refl _) (by assumption)))
          all_goals
            go_wp2
            go_ret
            refine ⟨?_, by (first | exact hHeld.2.2.2 | (rename_i hh; exact hh.2.2.2))⟩
            first | rfl | simp

end Go.Proofs.Ytegbbankbcojkaa

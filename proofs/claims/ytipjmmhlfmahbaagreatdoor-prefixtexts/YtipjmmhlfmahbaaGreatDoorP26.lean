/-
  Texts Ref2 of the proof.
-/
import Derived.Deep.Onto
import Derived.Test.YtipjmmhlfmahbaaGreatDoorP17
import Derived.Test.YtipjmmhlfmahbaaGreatDoorP22

namespace Go.Proofs.YtipjmmhlfmahbaaGreatDoor
open Go.ChangeShapes Go.WideShapes Go.ChangeAt Go.RowKit
set_option linter.unusedVariables false
set_option linter.unusedSimpArgs false

set_option maxHeartbeats 400000 in
theorem rwidth_c (v : Bool) (W : Int) (hW : widthA v = W) (h l : Int) (w : World) :
    Calls Tryz.prog 24 #[av v h l] w fun e w' => e = .returned (.int .i64 W) ∧ Below w.heap.size w w' := by
  subst hW
  cases v
  · go_enter Tryz.func24, Tryz.ntmps24
    go_wp2
    go_ret
    exact ⟨rfl, by repeat (first | with_reducible exact Below.refl _ _ | with_reducible refine Below.drew ?_ | with_reducible refine Below.alloc ?_ (by first | omega | (simp <;> omega)) _ | with_reducible refine Below.setCell ?_ (by first | omega | (simp <;> omega)) _)⟩
  · go_enter Tryz.func24, Tryz.ntmps24
    go_wp2
    go_ret
    exact ⟨rfl, by repeat (first | with_reducible exact Below.refl _ _ | with_reducible refine Below.drew ?_ | with_reducible refine Below.alloc ?_ (by first | omega | (simp <;> omega)) _ | with_reducible refine Below.setCell ?_ (by first | omega | (simp <;> omega)) _)⟩

set_option maxHeartbeats 400000 in
theorem rright_c {v : Bool} {h l : Int} {a : Nat} (ha : IsNum h l a) (w : World) :
    Calls Tryz.prog 23 #[av v h l] w fun e w' => e = .returned (.bool (okA v a)) ∧ Below w.heap.size w w' := by
  have a0 := ha.h0; have a1 := ha.h1; have a2 := ha.l0; have a3 := ha.l1; have a4 := ha.eq
  cases v
  · by_cases hh : h = 0
    · subst hh
      by_cases hl : l < 4294967296
      · have f : Hid (okA false a = true) := by show _ = _; simp [okA]; omega
        clear ha a4
        go_enter Tryz.func23, Tryz.ntmps23
        go_wp2
        go_ret
        exact ⟨by rw [f.out]; rfl, by repeat (first | with_reducible exact Below.refl _ _ | with_reducible refine Below.drew ?_ | with_reducible refine Below.alloc ?_ (by first | omega | (simp <;> omega)) _ | with_reducible refine Below.setCell ?_ (by first | omega | (simp <;> omega)) _)⟩
      · have f : Hid (okA false a = false) := by show _ = _; simp [okA]; omega
        have hl' : decide (l < 4294967296) = false := decide_eq_false hl
        clear ha a4 hl
        go_enter Tryz.func23, Tryz.ntmps23
        go_wp2
        go_ret
        exact ⟨by rw [f.out]; rfl, by repeat (first | with_reducible exact Below.refl _ _ | with_reducible refine Below.drew ?_ | with_reducible refine Below.alloc ?_ (by first | omega | (simp <;> omega)) _ | with_reducible refine Below.setCell ?_ (by first | omega | (simp <;> omega)) _)⟩
    · have f : Hid (okA false a = false) := by show _ = _; simp [okA]; omega
      have hh' : (h == 0) = false := by simpa using hh
      clear ha a4 hh
      go_enter Tryz.func23, Tryz.ntmps23
      go_wp2
      go_ret
      exact ⟨by rw [f.out]; rfl, by repeat (first | with_reducible exact Below.refl _ _ | with_reducible refine Below.drew ?_ | with_reducible refine Below.alloc ?_ (by first | omega | (simp <;> omega)) _ | with_reducible refine Below.setCell ?_ (by first | omega | (simp <;> omega)) _)⟩
  · have f : Hid (okA true a = true) := rfl
    clear ha a4
    go_enter Tryz.func23, Tryz.ntmps23
    go_wp2
    go_ret
    exact ⟨by rw [f.out]; rfl, by repeat (first | with_reducible exact Below.refl _ _ | with_reducible refine Below.drew ?_ | with_reducible refine Below.alloc ?_ (by first | omega | (simp <;> omega)) _ | with_reducible refine Below.setCell ?_ (by first | omega | (simp <;> omega)) _)⟩

theorem new_one (W : World) (x : Value) (t : TypeId) : ∀ (j : Nat) (u : Value), [x][j]? = some u → (W.alloc (.cells #[x] t)).cell? ((⟨W.heap.size, 0, none⟩ : Addr).add j) = some u := by
  intro j u hj
  match j, hj with
  | 0, hj => simp at hj; subst hj; simp [Addr.add]

theorem double_mod (x b i : Nat) (hb : b ≤ 1) : (2 * x + b) % 2 ^ (i + 1) = 2 * (x % 2 ^ i) + b := by
  rw [Nat.pow_succ, Nat.mul_comm (2 ^ i) 2]
  have := pow_pos2 i
  have m := Nat.mod_lt x this
  have d := Nat.div_add_mod x (2 ^ i)
  generalize 2 ^ i = p at *
  generalize x % p = r at *
  generalize x / p = q at *
  subst d
  rw [show 2 * (p * q + r) + b = (2 * r + b) + 2 * p * q by rw [Nat.mul_add, Nat.mul_assoc]; omega, Nat.add_mul_mod_self_left, Nat.mod_eq_of_lt (by omega)]

set_option maxRecDepth 100000 in
set_option maxHeartbeats 1600000 in
theorem rbytes_4 {h l : Int} {a : Nat} (ha : IsNum h l a) (w : World) :
    Calls Tryz.prog 47 #[av false h l] w fun e w' => ∃ sv, e = .returned sv ∧ w'.ownsRow w.heap.size 5 1 sv 4 ((topP a 32 8 4).map fun n : Nat => .int .u8 (n : Int)) ∧ Below w.heap.size w w' := by
  obtain ⟨i0, hi, hz0, hz1, hz2⟩ := info_parts infoU8
  go_enter Tryz.func47, Tryz.ntmps47
  go_wp2_with fail
  refine (bits_c ha _).mono ?_
  rintro e w1 ⟨g, cap, rfl, hg, BR, hb1⟩
  obtain ⟨hc1, hf1⟩ := bcell hb1
  have hz_w1_0 : w.heap.size < w1.heap.size   := (by have := hb1.size; first | omega | (simp at this; omega))
  have B1 : Below w.heap.size w w1 := by repeat (first | with_reducible exact Below.refl _ _ | with_reducible refine Below.drew ?_ | with_reducible refine Below.alloc ?_ (by first | omega | (simp <;> omega)) _ | with_reducible refine Below.setCell ?_ (by first | omega | (simp <;> omega)) _ | with_reducible refine Below.trans ?_ (Below.mono hb1 (by first | omega | (simp <;> omega))))
  have bx : w1.cell? ⟨w.heap.size, 0, none⟩ = some (.bool false) ∧ w1.cell? ⟨w.heap.size, 1, none⟩ = some (.int .u64 h) ∧ w1.cell? ⟨w.heap.size, 2, none⟩ = some (.int .u64 l) := by simp [*]
  obtain ⟨bx0, bx1, bx2⟩ := bx
  clear hc1 hf1 hb1 ha
  go_wp2_with fail
  refine (rwidth_c false 32 rfl h l _).mono ?_
  rintro e w2 ⟨rfl, hb2⟩
  have OW0 : w2.ownsRow w1.heap.size 5 1 (.slice (some ⟨w1.heap.size, 0, none⟩) 0 0) 0 [] := by
    have := World.ownsRow_made (base := w1.heap.size) (e := 5) (size := 1) w1 #[] 0 (Nat.le_refl _) (by unfold maxLen; omega) (by simp)
    exact own_below (by simpa using this) hb2
  have B2 : Below w1.heap.size w1 w2 := ((Below.refl _ _).alloc (Nat.le_refl _) _).trans (hb2.mono (by simp))
  have hgl := BR.1
  clear hb2
  go_wp2_with fail
  go_loopw [4, 5] (fun u i wr => ∃ (j : Nat) (K : Int), j ≤ 4 ∧ i = .int .i64 K ∧ Hid (K = 32 - 1 - 8 * (j : Int)) ∧ -1 ≤ K ∧ K ≤ 32 - 1 ∧ wr.ownsRow w1.heap.size 5 1 u j ((topP a 32 8 j).map fun n : Nat => .int .u8 (n : Int)) ∧ Below w1.heap.size w1 wr) (fun _ i _ => (intOf i + 1).toNat)
  case atStart => exact ⟨0, 32 - 1, by omega, rfl, (by simp : (32 - 1 : Int) = 32 - 1 - 8 * ((0 : Nat) : Int)), by omega, by omega, OW0, B2⟩
  case round =>
    clear OW0 B2
    obtain ⟨j, K, hj, rfl, hK, K0, K1, hown, hb⟩ := hrel
    have hs := hb.size
    have hK' := hK.out
    by_cases hlt : j < 4
    · have Kp : 0 ≤ K := by omega
      have K7 : 7 ≤ K := by omega
      have BRr : BitRow wr g 128 a := ⟨by omega, fun i h => (hb.cell (p := ⟨g, i, none⟩) hgl).trans (BR.2 i h)⟩
      obtain ⟨M, hM⟩ : ∃ M : Nat, K = (M : Int) := ⟨K.toNat, by omega⟩
      have HM : Hid (K = (M : Int)) := hM
      clear hK' hM
      go_wp2_with fail
      go_loop [6, 7] (fun x i => ∃ (t : Nat) (X : Int), t ≤ 8 ∧ i = .int .i64 t ∧ x = .int .i64 X ∧ 0 ≤ X ∧ X < 256 ∧ Hid (X = ((a / 2 ^ (M + 1 - t) % 2 ^ t : Nat) : Int))) (fun _ i => 8 - (intOf i).toNat)
      case atStart => exact ⟨0, 0, by omega, rfl, rfl, by omega, by omega, by show _ = _; simp [Nat.mod_one]⟩
      case round =>
        obtain ⟨t, X, ht, rfl, rfl, X0, X1, hX⟩ := hrel
        by_cases ht8 : t < 8
        · have hti : (t : Int) < 8 := by omega
          obtain ⟨b, hb01⟩ : ∃ b : Int, b = ((bitN a (M - t) : Nat) : Int) := ⟨_, rfl⟩
          have bl := bitN_le a (M - t)
          have HMo := HM.out
          have cell : wr.cell? ⟨g, K.toNat - t, none⟩ = some (.int .i64 b) := by
            rw [show K.toNat - t = M - t by omega, BRr.2 (M - t) (by omega), hb01]
          have up : ((a / 2 ^ (M + 1 - (t + 1)) % 2 ^ (t + 1) : Nat) : Int) = 2 * X + b := by
            rw [show M + 1 - (t + 1) = M - t by omega, half_up a (M - t), double_mod _ _ _ bl, show M - t + 1 = M + 1 - t by omega, hX.out, hb01]
            simp
          have b0 : 0 ≤ b := by omega
          have b1 : b ≤ 1 := by omega
          have up' : Hid (2 * X + b = ((a / 2 ^ (M + 1 - (t + 1)) % 2 ^ (t + 1) : Nat) : Int)) := up.symm
          have xl : 2 * X + b < 256 := by
            have := Nat.mod_lt (a / 2 ^ (M + 1 - (t + 1))) (pow_pos2 (t + 1))
            have p : 2 ^ (t + 1) ≤ 2 ^ 8 := Nat.pow_le_pow_right (by decide) (by omega)
            rw [show (2 : Nat) ^ 8 = 256 by decide] at p
            omega
          clear up hb01 bl HMo hX
          go_wp2
          go_round
          case measure => simp [intOf]; omega
          case rel => exact ⟨t + 1, 2 * X + b, by omega, by go_num, rfl, by omega, xl, up'⟩
        · obtain rfl : t = 8 := by omega
          have hX' : Hid (X = ((a / 2 ^ (M + 1 - 8) % 2 ^ 8 : Nat) : Int)) := hX
          clear hX
          go_wp2_with (first | (at_builtin; refine wpList_append_own _ rfl _ _ 63 rfl w1.heap.size 5 i0 (.int .u8 0) 1 1 Tryz.underlying63 hi hz0 hz1 hz2 rfl (by decide) _ _ _ rfl (hown.alloc _) ⟨wr.heap.size, 0, none⟩ 1 1 [.int .u8 X] rfl rfl (new_one _ _ _) (by intro u hu; simp at hu; subst hu; rfl) (by unfold maxLen; omega) (by omega) (by simp; omega) ?_))
          intro v' w4 hown4 hgrow _
          have hb5 := below_grown hb hs hown hgrow
          clear hown hgrow BRr
          go_wp2
          go_roundw
          case measure => simp [intOf]; omega
          case rel =>
            have hK' := hK.out
            have HMo := HM.out
            refine ⟨j + 1, K - 8, by omega, rfl, by show _ = _; omega, by omega, by omega, ?_, hb5⟩
            have e1 : X = ((a / 2 ^ (32 - 8 * (j + 1)) % 2 ^ 8 : Nat) : Int) := by
              rw [hX'.out, show M + 1 - 8 = 32 - 8 * (j + 1) by omega]
            rw [e1] at hown4
            simpa [topP] using hown4
    · obtain rfl : j = 4 := by omega
      have Kn : K = -1 := by omega
      have hB : Below w.heap.size w wr := B1.trans (hb.mono B1.size)
      have hown' := World.ownsRow.mono hown B1.size
      clear hown hb hs hK hK'
      subst Kn
      go_wp2
      go_ret
      exact ⟨_, rfl, hown', hB⟩

set_option maxRecDepth 100000 in
set_option maxHeartbeats 1600000 in
theorem rbytes_16 {h l : Int} {a : Nat} (ha : IsNum h l a) (w : World) :
    Calls Tryz.prog 47 #[av true h l] w fun e w' => ∃ sv, e = .returned sv ∧ w'.ownsRow w.heap.size 5 1 sv 16 ((topP a 128 8 16).map fun n : Nat => .int .u8 (n : Int)) ∧ Below w.heap.size w w' := by
  obtain ⟨i0, hi, hz0, hz1, hz2⟩ := info_parts infoU8
  go_enter Tryz.func47, Tryz.ntmps47
  go_wp2_with fail
  refine (bits_c ha _).mono ?_
  rintro e w1 ⟨g, cap, rfl, hg, BR, hb1⟩
  obtain ⟨hc1, hf1⟩ := bcell hb1
  have hz_w1_0 : w.heap.size < w1.heap.size   := (by have := hb1.size; first | omega | (simp at this; omega))
  have B1 : Below w.heap.size w w1 := by repeat (first | with_reducible exact Below.refl _ _ | with_reducible refine Below.drew ?_ | with_reducible refine Below.alloc ?_ (by first | omega | (simp <;> omega)) _ | with_reducible refine Below.setCell ?_ (by first | omega | (simp <;> omega)) _ | with_reducible refine Below.trans ?_ (Below.mono hb1 (by first | omega | (simp <;> omega))))
  have bx : w1.cell? ⟨w.heap.size, 0, none⟩ = some (.bool true) ∧ w1.cell? ⟨w.heap.size, 1, none⟩ = some (.int .u64 h) ∧ w1.cell? ⟨w.heap.size, 2, none⟩ = some (.int .u64 l) := by simp [*]
  obtain ⟨bx0, bx1, bx2⟩ := bx
  clear hc1 hf1 hb1 ha
  go_wp2_with fail
  refine (rwidth_c true 128 rfl h l _).mono ?_
  rintro e w2 ⟨rfl, hb2⟩
  have OW0 : w2.ownsRow w1.heap.size 5 1 (.slice (some ⟨w1.heap.size, 0, none⟩) 0 0) 0 [] := by
    have := World.ownsRow_made (base := w1.heap.size) (e := 5) (size := 1) w1 #[] 0 (Nat.le_refl _) (by unfold maxLen; omega) (by simp)
    exact own_below (by simpa using this) hb2
  have B2 : Below w1.heap.size w1 w2 := ((Below.refl _ _).alloc (Nat.le_refl _) _).trans (hb2.mono (by simp))
  have hgl := BR.1
  clear hb2
  go_wp2_with fail
  go_loopw [4, 5] (fun u i wr => ∃ (j : Nat) (K : Int), j ≤ 16 ∧ i = .int .i64 K ∧ Hid (K = 128 - 1 - 8 * (j : Int)) ∧ -1 ≤ K ∧ K ≤ 128 - 1 ∧ wr.ownsRow w1.heap.size 5 1 u j ((topP a 128 8 j).map fun n : Nat => .int .u8 (n : Int)) ∧ Below w1.heap.size w1 wr) (fun _ i _ => (intOf i + 1).toNat)
  case atStart => exact ⟨0, 128 - 1, by omega, rfl, (by simp : (128 - 1 : Int) = 128 - 1 - 8 * ((0 : Nat) : Int)), by omega, by omega, OW0, B2⟩
  case round =>
    clear OW0 B2
    obtain ⟨j, K, hj, rfl, hK, K0, K1, hown, hb⟩ := hrel
    have hs := hb.size
    have hK' := hK.out
    by_cases hlt : j < 16
    · have Kp : 0 ≤ K := by omega
      have K7 : 7 ≤ K := by omega
      have BRr : BitRow wr g 128 a := ⟨by omega, fun i h => (hb.cell (p := ⟨g, i, none⟩) hgl).trans (BR.2 i h)⟩
      obtain ⟨M, hM⟩ : ∃ M : Nat, K = (M : Int) := ⟨K.toNat, by omega⟩
      have HM : Hid (K = (M : Int)) := hM
      clear hK' hM
      go_wp2_with fail
      go_loop [6, 7] (fun x i => ∃ (t : Nat) (X : Int), t ≤ 8 ∧ i = .int .i64 t ∧ x = .int .i64 X ∧ 0 ≤ X ∧ X < 256 ∧ Hid (X = ((a / 2 ^ (M + 1 - t) % 2 ^ t : Nat) : Int))) (fun _ i => 8 - (intOf i).toNat)
      case atStart => exact ⟨0, 0, by omega, rfl, rfl, by omega, by omega, by show _ = _; simp [Nat.mod_one]⟩
      case round =>
        obtain ⟨t, X, ht, rfl, rfl, X0, X1, hX⟩ := hrel
        by_cases ht8 : t < 8
        · have hti : (t : Int) < 8 := by omega
          obtain ⟨b, hb01⟩ : ∃ b : Int, b = ((bitN a (M - t) : Nat) : Int) := ⟨_, rfl⟩
          have bl := bitN_le a (M - t)
          have HMo := HM.out
          have cell : wr.cell? ⟨g, K.toNat - t, none⟩ = some (.int .i64 b) := by
            rw [show K.toNat - t = M - t by omega, BRr.2 (M - t) (by omega), hb01]
          have up : ((a / 2 ^ (M + 1 - (t + 1)) % 2 ^ (t + 1) : Nat) : Int) = 2 * X + b := by
            rw [show M + 1 - (t + 1) = M - t by omega, half_up a (M - t), double_mod _ _ _ bl, show M - t + 1 = M + 1 - t by omega, hX.out, hb01]
            simp
          have b0 : 0 ≤ b := by omega
          have b1 : b ≤ 1 := by omega
          have up' : Hid (2 * X + b = ((a / 2 ^ (M + 1 - (t + 1)) % 2 ^ (t + 1) : Nat) : Int)) := up.symm
          have xl : 2 * X + b < 256 := by
            have := Nat.mod_lt (a / 2 ^ (M + 1 - (t + 1))) (pow_pos2 (t + 1))
            have p : 2 ^ (t + 1) ≤ 2 ^ 8 := Nat.pow_le_pow_right (by decide) (by omega)
            rw [show (2 : Nat) ^ 8 = 256 by decide] at p
            omega
          clear up hb01 bl HMo hX
          go_wp2
          go_round
          case measure => simp [intOf]; omega
          case rel => exact ⟨t + 1, 2 * X + b, by omega, by go_num, rfl, by omega, xl, up'⟩
        · obtain rfl : t = 8 := by omega
          have hX' : Hid (X = ((a / 2 ^ (M + 1 - 8) % 2 ^ 8 : Nat) : Int)) := hX
          clear hX
          go_wp2_with (first | (at_builtin; refine wpList_append_own _ rfl _ _ 63 rfl w1.heap.size 5 i0 (.int .u8 0) 1 1 Tryz.underlying63 hi hz0 hz1 hz2 rfl (by decide) _ _ _ rfl (hown.alloc _) ⟨wr.heap.size, 0, none⟩ 1 1 [.int .u8 X] rfl rfl (new_one _ _ _) (by intro u hu; simp at hu; subst hu; rfl) (by unfold maxLen; omega) (by omega) (by simp; omega) ?_))
          intro v' w4 hown4 hgrow _
          have hb5 := below_grown hb hs hown hgrow
          clear hown hgrow BRr
          go_wp2
          go_roundw
          case measure => simp [intOf]; omega
          case rel =>
            have hK' := hK.out
            have HMo := HM.out
            refine ⟨j + 1, K - 8, by omega, rfl, by show _ = _; omega, by omega, by omega, ?_, hb5⟩
            have e1 : X = ((a / 2 ^ (128 - 8 * (j + 1)) % 2 ^ 8 : Nat) : Int) := by
              rw [hX'.out, show M + 1 - 8 = 128 - 8 * (j + 1) by omega]
            rw [e1] at hown4
            simpa [topP] using hown4
    · obtain rfl : j = 16 := by omega
      have Kn : K = -1 := by omega
      have hB : Below w.heap.size w wr := B1.trans (hb.mono B1.size)
      have hown' := World.ownsRow.mono hown B1.size
      clear hown hb hs hK hK'
      subst Kn
      go_wp2
      go_ret
      exact ⟨_, rfl, hown', hB⟩

end Go.Proofs.YtipjmmhlfmahbaaGreatDoor

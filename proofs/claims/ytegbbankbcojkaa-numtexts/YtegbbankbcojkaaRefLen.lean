/-
  The reference's Len and Shift.
-/
import Derived.Test.YtegbbankbcojkaaRefNum
namespace Go.Proofs.Ytegbbankbcojkaa
open Go.ChangeShapes Go.WideShapes Go.ChangeAt Go.RowKit
set_option linter.unusedVariables false
set_option linter.unusedSimpArgs false

theorem bitLen_up (a k : Nat) : Go.bitLen (a % 2 ^ (k + 1)) = if bitN a k = 1 then k + 1 else Go.bitLen (a % 2 ^ k) := by
  have b := bitN_le a k
  have m := Nat.mod_lt a (pow_pos2 k)
  rw [mod_up]
  by_cases h : bitN a k = 1
  · rw [if_pos h, h, Nat.mul_one]
    obtain ⟨x, y⟩ := Go.bitLen_spec (a % 2 ^ k + 2 ^ k)
    have p := pow_pos2 k
    exact len_uniq (y (by omega)) x (by rw [Nat.add_sub_cancel]; omega) (by rw [Nat.pow_succ]; omega)
  · rw [if_neg h, show bitN a k = 0 by omega, Nat.mul_zero, Nat.add_zero]

theorem bitN_shl (a k i : Nat) : bitN (a * 2 ^ k) i = if k ≤ i then bitN a (i - k) else 0 := by
  unfold bitN
  by_cases h : k ≤ i
  · rw [if_pos h]
    obtain ⟨d, rfl⟩ : ∃ d, i = k + d := ⟨i - k, by omega⟩
    rw [Nat.pow_add, Nat.mul_comm a, Nat.mul_div_mul_left _ _ (pow_pos2 k), Nat.add_sub_cancel_left]
  · rw [if_neg h]
    obtain ⟨d, rfl⟩ : ∃ d, k = i + (d + 1) := ⟨k - i - 1, by omega⟩
    rw [Nat.pow_add, Nat.mul_left_comm, Nat.mul_div_cancel_left _ (pow_pos2 i), Nat.pow_succ, ← Nat.mul_assoc]
    omega

set_option maxRecDepth 100000 in
set_option maxHeartbeats 1000000 in
theorem rlen_c {ah al : Int} {a : Nat} (ha : IsNum ah al a) (w : World) :
    Calls Try.prog 35 #[nv ah al] w fun e w' => ∃ n : Int, e = .returned (.int .i64 n) ∧ Hid (n = (Go.bitLen a : Nat)) ∧ Below w.heap.size w w' := by
  go_enter Try.func35, Try.ntmps35
  go_wp2_with fail
  refine (bits_c ha _).mono ?_
  rintro e w2 ⟨gx, cx, rfl, gx0, X, hb2⟩
  have hB2 : Below w.heap.size w w2 := by repeat (first | with_reducible exact Below.refl _ _ | with_reducible refine Below.drew ?_ | with_reducible refine Below.alloc ?_ (by first | omega | (simp <;> omega)) _ | with_reducible refine Below.setCell ?_ (by first | omega | (simp <;> omega)) _ | with_reducible refine Below.trans ?_ (Below.mono hb2 (by first | omega | (simp <;> omega))))
  clear hb2 gx0
  go_wp2_with fail
  go_loopw [4, 5] (fun u t wr => ∃ (k : Nat) (n : Int), t = .int .i64 k ∧ k ≤ 128 ∧ u = .int .i64 n ∧ Hid (n = (Go.bitLen (a % 2 ^ k) : Nat)) ∧ wr = w2) (fun _ t _ => 128 - (intOf t).toNat)
  case atStart => exact ⟨0, 0, rfl, by omega, rfl, by show _ = _; simp [Nat.mod_one, Go.bitLen], rfl⟩
  case round =>
    obtain ⟨k, n, rfl, hk, rfl, HN, rfl⟩ := hrel
    by_cases hlt : k < 128
    · obtain ⟨x, hx⟩ : ∃ x : Int, ((bitN a k : Nat) : Int) = x := ⟨_, rfl⟩
      have cx1 : wr.cell? ⟨gx, k, none⟩ = some (.int .i64 x) := by rw [X.2 k hlt, hx]
      have up := bitLen_up a k
      have hki : (k : Int) < 128 := by omega
      by_cases hb1 : bitN a k = 1
      · have hx1 : (x == 1) = true := by simp; omega
        have E : Hid ((k : Int) + 1 = (Go.bitLen (a % 2 ^ (k + 1)) : Nat)) := by show _ = _; rw [up, if_pos hb1]; omega
        clear hx up hb1
        go_wp2
        go_roundw
        case measure => simp [intOf]; omega
        case rel => exact ⟨k + 1, _, by go_num, by omega, rfl, E, trivial⟩
      · have hx1 : (x == 1) = false := by simp; omega
        have E : Hid (n = (Go.bitLen (a % 2 ^ (k + 1)) : Nat)) := by show _ = _; rw [up, if_neg hb1]; exact HN.out
        clear hx up hb1
        go_wp2
        go_roundw
        case measure => simp [intOf]; omega
        case rel => exact ⟨k + 1, _, by go_num, by omega, rfl, E, trivial⟩
    · have k128 : k = 128 := by omega
      have E : Hid (n = (Go.bitLen a : Nat)) := by
        show _ = _
        rw [HN.out, k128, show 2 ^ 128 = 340282366920938463463374607431768211456 by decide, Nat.mod_eq_of_lt ha.lt]
      have hki : ¬ (k : Int) < 128 := by omega
      clear k128 HN
      go_wp2
      go_ret
      exact ⟨_, rfl, E, hB2⟩

set_option maxRecDepth 100000 in
set_option maxHeartbeats 2000000 in
theorem rshift_c {ah al s : Int} {a : Nat} (ha : IsNum ah al a) (s0 : 0 ≤ s) (s1 : s ≤ 127) (w : World) :
    Calls Try.prog 36 #[nv ah al, .int .i64 s] w fun e w' => ∃ h l, e = .returned (nv h l) ∧ IsNum h l (a * 2 ^ s.toNat % 340282366920938463463374607431768211456) ∧ Below w.heap.size w w' := by
  obtain ⟨i0, hi, hz0, hz1, hz2⟩ := info_parts infoInt
  have g1 : decide (127 < s) = false := by simp; omega
  have g2 : decide (s < -127) = false := by simp; omega
  go_enter Try.func36, Try.ntmps36
  go_wp2_with fail
  have R : Two ((w.alloc (.cells #[.int .u64 ah, .int .u64 al] 24)).alloc (.cells #[.int .u64 0, .int .u64 0] 24)) (w.heap.size + 1) 0 0 := by simpa using Two.new (w.alloc (.cells #[.int .u64 ah, .int .u64 al] 24)) 0 0 24
  have F : ((w.alloc (.cells #[.int .u64 ah, .int .u64 al] 24)).alloc (.cells #[.int .u64 0, .int .u64 0] 24)).frozen? ⟨w.heap.size + 1, 0, none⟩ = false ∧ ((w.alloc (.cells #[.int .u64 ah, .int .u64 al] 24)).alloc (.cells #[.int .u64 0, .int .u64 0] 24)).frozen? ⟨w.heap.size + 1, 1, none⟩ = false := by
    constructor <;> rw [World.frozen?_alloc_at _ _ _ _ (by simp)]
  refine (bits_c ha _).mono ?_
  rintro e w2 ⟨gx, cx, rfl, gx0, X, hb2⟩
  have hB2 : Below w.heap.size w w2 := by repeat (first | with_reducible exact Below.refl _ _ | with_reducible refine Below.drew ?_ | with_reducible refine Below.alloc ?_ (by first | omega | (simp <;> omega)) _ | with_reducible refine Below.setCell ?_ (by first | omega | (simp <;> omega)) _ | with_reducible refine Below.trans ?_ (Below.mono hb2 (by first | omega | (simp <;> omega))))
  replace F : w2.frozen? ⟨w.heap.size + 1, 0, none⟩ = false ∧ w2.frozen? ⟨w.heap.size + 1, 1, none⟩ = false := ⟨(hb2.frozen R.2.2).trans F.1, (hb2.frozen R.2.2).trans F.2⟩
  replace R := R.below hb2
  clear hb2 gx0
  go_wp2_with fail
  go_loopw [6, 7] (fun v i wr => ∃ k : Nat, k ≤ 128 ∧ i = .int .i64 k ∧ wr.ownsRow w2.heap.size 3 1 v k ((bitsL (a * 2 ^ s.toNat) k).map (Value.int .i64)) ∧ Below w2.heap.size w2 wr) (fun _ i _ => 128 - (intOf i).toNat)
  case atStart =>
    refine ⟨0, by omega, rfl, ?_, by repeat (first | with_reducible exact Below.refl _ _ | with_reducible refine Below.drew ?_ | with_reducible refine Below.alloc ?_ (by first | omega | (simp <;> omega)) _ | with_reducible refine Below.setCell ?_ (by first | omega | (simp <;> omega)) _)⟩
    have := World.ownsRow_made (base := w2.heap.size) (e := 3) (size := 1) w2 #[] 0 (by omega) (by unfold maxLen; omega) (by simp)
    simpa [bitsL] using this
  case round =>
    obtain ⟨k, hk, rfl, hown, hbr⟩ := hrel
    have hs := hbr.size
    by_cases hlt : k < 128
    · have hki : (k : Int) < 128 := by omega
      have bs := bitN_shl a s.toNat k
      by_cases hge : 0 ≤ (k : Int) - s
      · obtain ⟨x, hx⟩ : ∃ x : Int, ((bitN a (k - s.toNat) : Nat) : Int) = x := ⟨_, rfl⟩
        have cx1 : wr.cell? ⟨gx, ((k : Int) - s).toNat, none⟩ = some (.int .i64 x) := by
          rw [hbr.cell (p := ⟨gx, ((k : Int) - s).toNat, none⟩) X.1, X.2 _ (by omega), show ((k : Int) - s).toNat = k - s.toNat by omega, hx]
        have hle : (k : Int) - s < 128 := by omega
        have E1 : Hid (x = ((bitN (a * 2 ^ s.toNat) k : Nat) : Int)) := by show _ = _; rw [bs, if_pos (by omega), hx]
        clear hx bs
        go_wp2_with (first | (at_builtin; refine wpList_append_own _ rfl _ _ 49 rfl w2.heap.size 3 i0 (.int .i64 0) 1 8 Try.underlying49 hi hz0 hz1 hz2 rfl (by decide) _ _ _ rfl (hown.alloc _) ⟨wr.heap.size, 0, none⟩ 1 1 [.int .i64 x] rfl rfl ?c1 ?c2 ?c3 ?c4 ?c5 ?_))
        case c1 =>
          intro j u hj
          match j, hj with
          | 0, hj => simp at hj; subst hj; simp [Addr.add]
        case c2 => intro u hu; simp at hu; subst hu; rfl
        case c3 => unfold maxLen; omega
        case c4 => omega
        case c5 => simp; omega
        intro v' w3 hown' hgrow _
        obtain ⟨ho2, hb2⟩ := grow_one (w := w2) (by omega) hbr hs hown hown' hgrow
        clear hown hown' hgrow
        go_wp2
        go_roundw
        case measure => simp [intOf]; omega
        case rel =>
          refine ⟨k + 1, by omega, by go_num, ?_, hb2⟩
          rw [E1.out] at ho2
          exact ho2
      · have hd : decide (0 ≤ (k : Int) - s) = false := by simp; omega
        have E1 : Hid (0 = ((bitN (a * 2 ^ s.toNat) k : Nat) : Int)) := by show _ = _; rw [bs, if_neg (by omega)]; rfl
        clear bs
        go_wp2_with (first | (at_builtin; refine wpList_append_own _ rfl _ _ 49 rfl w2.heap.size 3 i0 (.int .i64 0) 1 8 Try.underlying49 hi hz0 hz1 hz2 rfl (by decide) _ _ _ rfl (hown.alloc _) ⟨wr.heap.size, 0, none⟩ 1 1 [.int .i64 0] rfl rfl (cell_one_new _ _ _) ?d2 ?d3 ?d4 ?d5 ?_))
        case d2 => first | (intro u hu; simp at hu; subst hu; rfl) | rfl | simp
        case d3 => unfold maxLen; omega
        case d4 => omega
        case d5 => first | omega | (simp; omega)
        intro v' w3 hown' hgrow _
        obtain ⟨ho2, hb2⟩ := grow_one (w := w2) (by omega) hbr hs hown hown' hgrow
        clear hown hown' hgrow
        go_wp2
        go_roundw
        case measure => simp [intOf]; omega
        case rel =>
          refine ⟨k + 1, by omega, by go_num, ?_, hb2⟩
          rw [E1.out] at ho2
          exact ho2
    · have k128 : k = 128 := by omega
      have hown2 : wr.ownsRow w2.heap.size 3 1 u6 128 ((bitsL (a * 2 ^ s.toNat) 128).map (Value.int .i64)) := by rw [k128] at hown; exact hown
      obtain ⟨g, cap, hv, hg, hcap, hm, hr⟩ := bitRow_of (by omega) hown2
      have hr2 : BitRow wr g 128 (a * 2 ^ s.toNat % 340282366920938463463374607431768211456) := ⟨hr.1, fun i hi => by
        rw [hr.2 i hi, show (340282366920938463463374607431768211456 : Nat) = 2 ^ 128 by decide, bitN_mod _ _ _ hi]⟩
      have hki : ¬ (k : Int) < 128 := by omega
      have R' : Two wr (w.heap.size + 1) 0 0 := R.below hbr
      have F0 : wr.frozen? ⟨w.heap.size + 1, 0, none⟩ = false := (hbr.frozen R.2.2).trans F.1
      have F1 : wr.frozen? ⟨w.heap.size + 1, 1, none⟩ = false := (hbr.frozen R.2.2).trans F.2
      have hBr : Below w.heap.size w wr := hB2.trans (hbr.mono hB2.size)
      clear hown hown2 hr k128 hlt X R F hbr hB2
      subst hv
      go_wp2_with fail
      refine (num_w g 128 cap _ (by omega) (Nat.mod_lt _ (by decide)) hcap hm _ hr2).mono ?_
      rintro e w3 ⟨h, l, rfl, hn, hb3⟩
      have hB3 : Below w.heap.size w w3 := hBr.trans (hb3.mono hBr.size)
      have F0' : w3.frozen? ⟨w.heap.size + 1, 0, none⟩ = false := (hb3.frozen R'.2.2).trans F0
      have F1' : w3.frozen? ⟨w.heap.size + 1, 1, none⟩ = false := (hb3.frozen R'.2.2).trans F1
      replace R' := R'.below hb3
      obtain ⟨R0, R1, R2⟩ := id R'
      clear hb3 F0 F1 hBr hr2
      go_wp2
      refine bodyPost_ret (v := nv h l) (by simp [results, Try.results36, go_sem, World.cell?_setCell_same', World.cell?_setCell_other, R0, R1]) rfl ⟨h, l, rfl, hn, by repeat (first | with_reducible exact Below.refl _ _ | with_reducible refine Below.drew ?_ | with_reducible refine Below.alloc ?_ (by first | omega | (simp <;> omega)) _ | with_reducible refine Below.setCell ?_ (by first | omega | (simp <;> omega)) _ | with_reducible refine Below.trans ?_ (Below.mono hB3 (by first | omega | (simp <;> omega))))⟩
end Go.Proofs.Ytegbbankbcojkaa

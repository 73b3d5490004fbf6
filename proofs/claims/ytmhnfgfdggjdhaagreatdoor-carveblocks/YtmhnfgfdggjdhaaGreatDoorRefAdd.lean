/-
  The reference's sum, bit by bit.
-/
import Derived.Test.YtmhnfgfdggjdhaaGreatDoorRefNum
import Derived.Deep.DeepCutAuto
namespace Go.Proofs.YtmhnfgfdggjdhaaGreatDoor
open Go.ChangeShapes Go.WideShapes Go.ChangeAt Go.RowKit
set_option linter.unusedVariables false
set_option linter.unusedSimpArgs false

set_option maxHeartbeats 2000000 in
theorem radd_c {ah al bh bl : Int} {a b : Nat} (ha : IsNum ah al a) (hb : IsNum bh bl b) (w : World) :
    Calls Tryz.prog 107 #[nv ah al, nv bh bl] w fun e w' => ∃ h l t, e = .returned (.tuple #[nv h l, .bool t]) ∧ IsNum h l ((a + b) % 340282366920938463463374607431768211456) ∧ Hid (t = decide (a + b < 340282366920938463463374607431768211456)) ∧ Below w.heap.size w w' := by
  obtain ⟨i0, hi, hz0, hz1, hz2⟩ := info_parts infoInt
  go_enter Tryz.func107, Tryz.ntmps107
  go_wp2_with fail
  have A : Two (((w.alloc (.cells #[.int .u64 ah, .int .u64 al] 24)).alloc (.cells #[.int .u64 bh, .int .u64 bl] 24)).alloc (.cells #[.int .u64 0, .int .u64 0] 24)) (w.heap.size + 1) bh bl := (by simpa using Two.new (w.alloc (.cells #[.int .u64 ah, .int .u64 al] 24)) bh bl 24 : Two ((w.alloc (.cells #[.int .u64 ah, .int .u64 al] 24)).alloc (.cells #[.int .u64 bh, .int .u64 bl] 24)) (w.heap.size + 1) bh bl).alloc _
  have R : Two (((w.alloc (.cells #[.int .u64 ah, .int .u64 al] 24)).alloc (.cells #[.int .u64 bh, .int .u64 bl] 24)).alloc (.cells #[.int .u64 0, .int .u64 0] 24)) (w.heap.size + 1 + 1) 0 0 := by simpa using Two.new ((w.alloc (.cells #[.int .u64 ah, .int .u64 al] 24)).alloc (.cells #[.int .u64 bh, .int .u64 bl] 24)) 0 0 24
  have F : (((w.alloc (.cells #[.int .u64 ah, .int .u64 al] 24)).alloc (.cells #[.int .u64 bh, .int .u64 bl] 24)).alloc (.cells #[.int .u64 0, .int .u64 0] 24)).frozen? ⟨w.heap.size + 1 + 1, 0, none⟩ = false ∧ (((w.alloc (.cells #[.int .u64 ah, .int .u64 al] 24)).alloc (.cells #[.int .u64 bh, .int .u64 bl] 24)).alloc (.cells #[.int .u64 0, .int .u64 0] 24)).frozen? ⟨w.heap.size + 1 + 1, 1, none⟩ = false := by
    constructor <;> rw [World.frozen?_alloc_at _ _ _ _ (by simp)]
  refine (bits_c ha _).mono ?_
  rintro e w1 ⟨gx, cx, rfl, gx0, X, hb1⟩
  have hB1 : Below w.heap.size w w1 := by repeat (first | with_reducible exact Below.refl _ _ | with_reducible refine Below.drew ?_ | with_reducible refine Below.alloc ?_ (by first | omega | (simp <;> omega)) _ | with_reducible refine Below.setCell ?_ (by first | omega | (simp <;> omega)) _ | with_reducible refine Below.trans ?_ (Below.mono hb1 (by first | omega | (simp <;> omega))))
  replace F : w1.frozen? ⟨w.heap.size + 1 + 1, 0, none⟩ = false ∧ w1.frozen? ⟨w.heap.size + 1 + 1, 1, none⟩ = false := ⟨(hb1.frozen R.2.2).trans F.1, (hb1.frozen R.2.2).trans F.2⟩
  replace A := A.below hb1
  replace R := R.below hb1
  obtain ⟨A0, A1, A2⟩ := id A
  clear hb1
  go_wp2_with fail
  refine (bits_c hb _).mono ?_
  rintro e w2 ⟨gy, cy, rfl, gy0, Y, hb2⟩
  have hB2 : Below w.heap.size w w2 := hB1.trans (hb2.mono (by omega))
  replace F : w2.frozen? ⟨w.heap.size + 1 + 1, 0, none⟩ = false ∧ w2.frozen? ⟨w.heap.size + 1 + 1, 1, none⟩ = false := ⟨(hb2.frozen R.2.2).trans F.1, (hb2.frozen R.2.2).trans F.2⟩
  replace X := X.below hb2
  replace R := R.below hb2
  clear A A0 A1 A2 hb2 hB1 gx0 gy0
  go_wp2_with fail
  go_loopw [8, 9, 10] (fun v c i wr => ∃ k : Nat, k ≤ 128 ∧ i = .int .i64 k ∧ c = .int .i64 ((carry a b k : Nat) : Int) ∧ wr.ownsRow w2.heap.size 3 1 v k ((bitsL (a + b) k).map (Value.int .i64)) ∧ Below w2.heap.size w2 wr) (fun _ _ i _ => 128 - (intOf i).toNat)
  case atStart =>
    refine ⟨0, by omega, rfl, by rw [carry_zero]; rfl, ?_, by repeat (first | with_reducible exact Below.refl _ _ | with_reducible refine Below.drew ?_ | with_reducible refine Below.alloc ?_ (by first | omega | (simp <;> omega)) _ | with_reducible refine Below.setCell ?_ (by first | omega | (simp <;> omega)) _)⟩
    have := World.ownsRow_made (base := w2.heap.size) (e := 3) (size := 1) w2 #[] 0 (by omega) (by unfold maxLen; omega) (by simp)
    simpa [bitsL] using this
  case round =>
    obtain ⟨k, hk, rfl, rfl, hown, hbr⟩ := hrel
    have hs := hbr.size
    by_cases hlt : k < 128
    · obtain ⟨c, hc⟩ : ∃ c : Int, ((carry a b k : Nat) : Int) = c := ⟨_, rfl⟩
      obtain ⟨x, hx⟩ : ∃ x : Int, ((bitN a k : Nat) : Int) = x := ⟨_, rfl⟩
      obtain ⟨y, hy⟩ : ∃ y : Int, ((bitN b k : Nat) : Int) = y := ⟨_, rfl⟩
      have cx1 : wr.cell? ⟨gx, k, none⟩ = some (.int .i64 x) := by rw [hbr.cell (p := ⟨gx, k, none⟩) X.1, X.2 k hlt, hx]
      have cy1 : wr.cell? ⟨gy, k, none⟩ = some (.int .i64 y) := by rw [hbr.cell (p := ⟨gy, k, none⟩) Y.1, Y.2 k hlt, hy]
      have b1 := bitN_le a k
      have b2 := bitN_le b k
      have b3 := carry_le a b k
      have b4 := bitN_add a b k
      have b5 := carry_up a b k
      have l0 : 0 ≤ x ∧ x ≤ 1 := by omega
      have l1 : 0 ≤ y ∧ y ≤ 1 := by omega
      have l2 : 0 ≤ c ∧ c ≤ 1 := by omega
      have E1 : Hid ((x + y + c) % 2 = ((bitN (a + b) k : Nat) : Int)) := by show _ = _; omega
      have E2 : Hid ((x + y + c) / 2 = ((carry a b (k + 1) : Nat) : Int)) := by show _ = _; omega
      rw [hc]
      have hki : (k : Int) < 128 := by omega
      clear hc hx hy b1 b2 b3 b4 b5
      go_wp2
      go_region
      go_wp2_with (first | (at_builtin; refine wpList_append_own _ rfl _ _ 77 rfl w2.heap.size 3 i0 (.int .i64 0) 1 8 Tryz.underlying77 hi hz0 hz1 hz2 rfl (by decide) _ _ _ rfl (hown.alloc _) ⟨wr.heap.size, 0, none⟩ 1 1 [.int .i64 ((x + y + c) % 2)] rfl rfl ?c1 ?c2 ?c3 ?c4 ?c5 ?_))
      case c1 =>
        intro j u hj
        match j, hj with
        | 0, hj => simp at hj; subst hj; simp [Addr.add]
      case c2 => intro u hu; simp at hu; subst hu; rfl
      case c3 => unfold maxLen; omega
      case c4 => omega
      case c5 => simp; omega
      intro v' w3 hown' hgrow _
      obtain ⟨ho2, hb2⟩ := grow_one (w := w2) (by omega) hbr hs hown hown' ⟨hgrow.os, hgrow.tape, hgrow.output, hgrow.size, hgrow.block⟩
      clear hown hown' hgrow
      go_wp2
      go_roundw
      case measure => simp [intOf]; omega
      case rel =>
        refine ⟨k + 1, by omega, by go_num, by rw [E2.out], ?_, hb2⟩
        rw [E1.out] at ho2
        exact ho2
    · have k128 : k = 128 := by omega
      have la := ha.lt
      have lb := hb.lt
      have hown2 : wr.ownsRow w2.heap.size 3 1 u8 128 ((bitsL (a + b) 128).map (Value.int .i64)) := by rw [k128] at hown; exact hown
      obtain ⟨g, cap, hv, hg, hcap, hm, hr⟩ := bitRow_of (by omega) hown2
      have hr2 : BitRow wr g 128 ((a + b) % 340282366920938463463374607431768211456) := ⟨hr.1, fun i hi => by
        rw [hr.2 i hi, show (340282366920938463463374607431768211456 : Nat) = 2 ^ 128 by decide, bitN_mod _ _ _ hi]⟩
      have hcl : ((carry a b k : Nat) : Int) = (((a + b) / 340282366920938463463374607431768211456 : Nat) : Int) := by
        rw [k128]; unfold carry
        rw [show 2 ^ 128 = 340282366920938463463374607431768211456 by decide, Nat.mod_eq_of_lt la, Nat.mod_eq_of_lt lb]
      obtain ⟨c, hc⟩ : ∃ c : Int, ((carry a b k : Nat) : Int) = c := ⟨_, rfl⟩
      have HC : Hid ((c == 0) = decide (a + b < 340282366920938463463374607431768211456)) := by
        show _ = _
        rw [Bool.eq_iff_iff, ← hc, hcl]; simp only [beq_iff_eq, decide_eq_true_eq]; omega
      rw [hc]
      have hki : ¬ (k : Int) < 128 := by omega
      have R' : Two wr (w.heap.size + 1 + 1) 0 0 := R.below hbr
      have F0 : wr.frozen? ⟨w.heap.size + 1 + 1, 0, none⟩ = false := (hbr.frozen R.2.2).trans F.1
      have F1 : wr.frozen? ⟨w.heap.size + 1 + 1, 1, none⟩ = false := (hbr.frozen R.2.2).trans F.2
      have hBr : Below w.heap.size w wr := hB2.trans (hbr.mono hB2.size)
      clear hown hown2 hr hcl hc k128 hlt X Y R F hbr hB2
      subst hv
      go_wp2_with fail
      refine (num_w g 128 cap _ (by omega) (Nat.mod_lt _ (by decide)) hcap hm _ hr2).mono ?_
      rintro e w3 ⟨h, l, rfl, hn, hb3⟩
      have hB3 : Below w.heap.size w w3 := hBr.trans (hb3.mono hBr.size)
      have F0' : w3.frozen? ⟨w.heap.size + 1 + 1, 0, none⟩ = false := (hb3.frozen R'.2.2).trans F0
      have F1' : w3.frozen? ⟨w.heap.size + 1 + 1, 1, none⟩ = false := (hb3.frozen R'.2.2).trans F1
      replace R' := R'.below hb3
      obtain ⟨R0, R1, R2⟩ := id R'
      clear hb3 F0 F1 hBr hr2
      go_wp2
      refine bodyPost_ret (v := .tuple #[nv h l, .bool (c == 0)]) (by simp [results, Tryz.results107, go_sem, World.cell?_setCell_same', World.cell?_setCell_other, R0, R1]) rfl ⟨h, l, _, rfl, hn, HC, by repeat (first | with_reducible exact Below.refl _ _ | with_reducible refine Below.drew ?_ | with_reducible refine Below.alloc ?_ (by first | omega | (simp <;> omega)) _ | with_reducible refine Below.setCell ?_ (by first | omega | (simp <;> omega)) _ | with_reducible refine Below.trans ?_ (Below.mono hB3 (by first | omega | (simp <;> omega))))⟩
end Go.Proofs.YtmhnfgfdggjdhaaGreatDoor

/-
  The reference's order: the highest bit that differs.
-/
import Derived.Test.YtmhnfgfdggjdhaaGreatDoorRefNum
namespace Go.Proofs.YtmhnfgfdggjdhaaGreatDoor
open Go.ChangeShapes Go.WideShapes Go.ChangeAt Go.RowKit
set_option linter.unusedVariables false
set_option linter.unusedSimpArgs false

theorem cmp_bits (a b c : Nat) (e : a / 2 ^ (c + 1) = b / 2 ^ (c + 1)) (d : bitN a c ≠ bitN b c) : cmpI (a : Int) (b : Int) = (bitN a c : Int) - (bitN b c : Int) := by
  have ha := half_up a c
  have hb := half_up b c
  have a1 := bitN_le a c
  have b1 := bitN_le b c
  rw [e] at ha
  have p := pow_pos2 c
  have x := Nat.div_add_mod a (2 ^ c)
  have y := Nat.div_add_mod b (2 ^ c)
  have xl := Nat.mod_lt a p
  have yl := Nat.mod_lt b p
  rcases (by omega : bitN a c = 0 ∧ bitN b c = 1 ∨ bitN a c = 1 ∧ bitN b c = 0) with ⟨u, v⟩ | ⟨u, v⟩
  · rw [cmpI_lt, u, v]
    · rfl
    · have h : a / 2 ^ c < b / 2 ^ c := by omega
      have : 2 ^ c * (a / 2 ^ c + 1) ≤ 2 ^ c * (b / 2 ^ c) := Nat.mul_le_mul_left _ h
      rw [Nat.mul_add, Nat.mul_one] at this
      omega
  · rw [cmpI_gt, u, v]
    · rfl
    · have h : b / 2 ^ c < a / 2 ^ c := by omega
      have : 2 ^ c * (b / 2 ^ c + 1) ≤ 2 ^ c * (a / 2 ^ c) := Nat.mul_le_mul_left _ h
      rw [Nat.mul_add, Nat.mul_one] at this
      omega

set_option maxRecDepth 100000 in
set_option maxHeartbeats 2000000 in
theorem rcmp_c {ah al bh bl : Int} {a b : Nat} (ha : IsNum ah al a) (hb : IsNum bh bl b) (w : World) :
    Calls Tryz.prog 73 #[nv ah al, nv bh bl] w fun e w' => ∃ n : Int, e = .returned (.int .i64 n) ∧ Hid (n = cmpI (a : Int) (b : Int)) ∧ Below w.heap.size w w' := by
  go_enter Tryz.func73, Tryz.ntmps73
  go_wp2_with fail
  have A : Two ((w.alloc (.cells #[.int .u64 ah, .int .u64 al] 24)).alloc (.cells #[.int .u64 bh, .int .u64 bl] 24)) (w.heap.size + 1) bh bl := by simpa using Two.new (w.alloc (.cells #[.int .u64 ah, .int .u64 al] 24)) bh bl 24
  refine (bits_c ha _).mono ?_
  rintro e w1 ⟨gx, cx, rfl, gx0, X, hb1⟩
  have hB1 : Below w.heap.size w w1 := by repeat (first | with_reducible exact Below.refl _ _ | with_reducible refine Below.drew ?_ | with_reducible refine Below.alloc ?_ (by first | omega | (simp <;> omega)) _ | with_reducible refine Below.setCell ?_ (by first | omega | (simp <;> omega)) _ | with_reducible refine Below.trans ?_ (Below.mono hb1 (by first | omega | (simp <;> omega))))
  replace A := A.below hb1
  obtain ⟨A0, A1, A2⟩ := id A
  clear hb1
  go_wp2_with fail
  refine (bits_c hb _).mono ?_
  rintro e w2 ⟨gy, cy, rfl, gy0, Y, hb2⟩
  have hB2 : Below w.heap.size w w2 := hB1.trans (hb2.mono (by omega))
  replace X := X.below hb2
  clear A A0 A1 A2 hb2 hB1 gx0 gy0
  go_wp2_with fail
  go_loopw [7] (fun t wr => ∃ (c : Nat) (i : Int), t = .int .i64 i ∧ Hid (i = (c : Int) - 1) ∧ -1 ≤ i ∧ i ≤ 127 ∧ Hid (a / 2 ^ c = b / 2 ^ c) ∧ Below w2.heap.size w2 wr) (fun t _ => (intOf t + 1).toNat)
  case atStart =>
    refine ⟨128, 127, rfl, rfl, by omega, by omega, ?_, Below.refl _ _⟩
    have la := ha.lt
    have lb := hb.lt
    show a / 2 ^ 128 = b / 2 ^ 128
    rw [show 2 ^ 128 = 340282366920938463463374607431768211456 by decide, Nat.div_eq_of_lt la, Nat.div_eq_of_lt lb]
  case round =>
    obtain ⟨c, i, rfl, HI, i0, i1, HE, hbr⟩ := hrel
    by_cases hlt : 0 ≤ i
    · have hi := HI.out
      obtain ⟨d, rfl⟩ : ∃ d, c = d + 1 := ⟨c - 1, by omega⟩
      obtain ⟨x, hx⟩ : ∃ x : Int, ((bitN a d : Nat) : Int) = x := ⟨_, rfl⟩
      obtain ⟨y, hy⟩ : ∃ y : Int, ((bitN b d : Nat) : Int) = y := ⟨_, rfl⟩
      have cx1 : wr.cell? ⟨gx, i.toNat, none⟩ = some (.int .i64 x) := by rw [hbr.cell (p := ⟨gx, i.toNat, none⟩) X.1, X.2 i.toNat (by omega), show i.toNat = d by omega, hx]
      have cy1 : wr.cell? ⟨gy, i.toNat, none⟩ = some (.int .i64 y) := by rw [hbr.cell (p := ⟨gy, i.toNat, none⟩) Y.1, Y.2 i.toNat (by omega), show i.toNat = d by omega, hy]
      have b1 := bitN_le a d
      have b2 := bitN_le b d
      have l0 : 0 ≤ x ∧ x ≤ 1 := by omega
      have l1 : 0 ≤ y ∧ y ≤ 1 := by omega
      have hBr : Below w.heap.size w wr := hB2.trans (hbr.mono hB2.size)
      by_cases hxy : x = y
      · have E : Hid (i - 1 = (d : Int) - 1 ∧ a / 2 ^ d = b / 2 ^ d) := ⟨by omega, by
          rw [half_up a d, half_up b d, HE.out]; omega⟩
        have hne : (x != y) = false := by simp [hxy]
        clear hi hx hy b1 b2 HI HE hxy
        go_wp2
        go_region
        go_wp2
        go_roundw
        case measure => simp [intOf]; omega
        case rel => exact ⟨d, i - 1, rfl, E.out.1, by omega, by omega, E.out.2, by repeat (first | with_reducible exact Below.refl _ _ | with_reducible refine Below.drew ?_ | with_reducible refine Below.alloc ?_ (by first | omega | (simp <;> omega)) _ | with_reducible refine Below.setCell ?_ (by first | omega | (simp <;> omega)) _ | with_reducible refine Below.trans ?_ (Below.mono hbr (by first | omega | (simp <;> omega))))⟩
      · have E : Hid (x - y = cmpI (a : Int) (b : Int)) := by
          show _ = _
          rw [cmp_bits a b d HE.out (by omega), hx, hy]
        have hne : (x != y) = true := by simp [hxy]
        clear hi hx hy b1 b2 HI HE hxy
        go_wp2
        go_region
        go_wp2
        go_region
        go_wp2
        go_ret
        exact ⟨_, rfl, E, by repeat (first | with_reducible exact Below.refl _ _ | with_reducible refine Below.drew ?_ | with_reducible refine Below.alloc ?_ (by first | omega | (simp <;> omega)) _ | with_reducible refine Below.setCell ?_ (by first | omega | (simp <;> omega)) _ | with_reducible refine Below.trans ?_ (Below.mono hBr (by first | omega | (simp <;> omega))))⟩
    · have hi := HI.out
      obtain rfl : c = 0 := by omega
      have E : Hid (0 = cmpI (a : Int) (b : Int)) := by
        have := HE.out
        simp at this
        show _ = _
        rw [cmpI_eq (by omega)]
      have hBr : Below w.heap.size w wr := hB2.trans (hbr.mono hB2.size)
      go_wp2
      go_ret
      exact ⟨_, rfl, E, hBr⟩
end Go.Proofs.YtmhnfgfdggjdhaaGreatDoor

/-
  The reference's way from a row of bits to a number: what Num returns.
-/
import Derived.Test.YtgbpnekinbdadaaDoorBits
import Derived.Deep.DeepCutAuto
namespace Go.Proofs.YtgbpnekinbdadaaDoor
open Go.ChangeShapes Go.WideShapes Go.ChangeAt Go.RowKit
set_option linter.unusedVariables false
set_option linter.unusedSimpArgs false

theorem half_up (a c : Nat) : a / 2 ^ c = 2 * (a / 2 ^ (c + 1)) + bitN a c := by
  unfold bitN
  rw [Nat.pow_succ, ← Nat.div_div_eq_div_mul]
  omega

theorem bitN_big {a n i : Nat} (h : a < 2 ^ n) (hi : n ≤ i) : bitN a i = 0 := by
  unfold bitN
  have : 2 ^ n ≤ 2 ^ i := Nat.pow_le_pow_right (by decide) hi
  rw [Nat.div_eq_of_lt (by omega)]

theorem mod_bit (a c : Nat) (hc : c < 64) : bitN (a % 18446744073709551616) c = bitN a c := by
  have h := Nat.div_add_mod a 18446744073709551616
  have := bitN_low (H := a / 18446744073709551616) (L := a % 18446744073709551616) hc
  rw [Nat.mul_comm, h] at this
  exact this.symm

set_option maxHeartbeats 1000000 in
theorem num_w (g n cap a : Nat) (hn : n ≤ 128) (ha : a < 2 ^ n) (hcap : n ≤ cap) (hm : cap ≤ maxLen) (w : World) (hr : BitRow w g n a) :
    Calls Tryd.prog 50 #[.slice (some ⟨g, 0, none⟩) n cap] w fun e w' => ∃ h l, e = .returned (nv h l) ∧ IsNum h l a ∧ Below w.heap.size w w' := by
  have a128 : a < 340282366920938463463374607431768211456 := by
    have : 2 ^ n ≤ 2 ^ 128 := Nat.pow_le_pow_right (by decide) hn
    rw [show 2 ^ 128 = 340282366920938463463374607431768211456 by decide] at this
    omega
  have HR : Hid (BitRow w g n a) := hr
  have gl := hr.1
  clear hr
  go_enter Tryd.func50, Tryd.ntmps50
  go_wp2_with fail
  go_loopw [4] (fun t wr => ∃ (c : Nat) (i x : Int), t = .int .i64 i ∧ Hid (i = (c : Int) - 1 ∧ x = ((a / 2 ^ c : Nat) : Int)) ∧ 63 ≤ i ∧ i ≤ 127 ∧ 0 ≤ x ∧ x < 18446744073709551616 ∧
      wr.cell? ⟨w.heap.size + 1, 0, none⟩ = some (.int .u64 x) ∧ wr.cell? ⟨w.heap.size + 1, 1, none⟩ = some (.int .u64 0) ∧ (∀ o, wr.frozen? ⟨w.heap.size + 1, o, none⟩ = false) ∧
      wr.cell? ⟨w.heap.size, 0, none⟩ = some (.int .u64 0) ∧ wr.cell? ⟨w.heap.size, 1, none⟩ = some (.int .u64 0) ∧ (∀ o, wr.frozen? ⟨w.heap.size, o, none⟩ = false) ∧ w.heap.size + 1 < wr.heap.size ∧ Below w.heap.size w wr) (fun t _ => (intOf t).toNat)
  case atStart =>
    refine ⟨128, 127, 0, rfl, ⟨by omega, ?_⟩, by omega, by omega, by omega, by omega, by simp, by simp, by simp, by simp, by simp, by simp, by simp, by repeat (first | with_reducible exact Below.refl _ _ | with_reducible refine Below.drew ?_ | with_reducible refine Below.alloc ?_ (by first | omega | (simp <;> omega)) _ | with_reducible refine Below.setCell ?_ (by first | omega | (simp <;> omega)) _)⟩
    rw [show 2 ^ 128 = 340282366920938463463374607431768211456 by decide, Nat.div_eq_of_lt a128]; rfl
  case round =>
    obtain ⟨c, i, x, rfl, HI, i0, i1, x0, x1, c0, c1, f0, d0, d1, f1, hz, hb⟩ := hrel
    by_cases hlt : 64 ≤ i
    · obtain ⟨hi, hx⟩ := HI.out
      have up := half_up a (c - 1)
      have c1' : c - 1 + 1 = c := by omega
      rw [c1'] at up
      have lim : a / 2 ^ (c - 1) < 18446744073709551616 := by
        rw [Nat.div_lt_iff_lt_mul (pow_pos2 _)]
        have : 2 ^ 64 ≤ 2 ^ (c - 1) := Nat.pow_le_pow_right (by decide) (by omega)
        rw [show 2 ^ 64 = 18446744073709551616 by decide] at this
        have : 18446744073709551616 * 18446744073709551616 ≤ 18446744073709551616 * 2 ^ (c - 1) := Nat.mul_le_mul_left _ this
        omega
      have b1 := bitN_le a (c - 1)
      by_cases hin : i < (n : Int)
      · obtain ⟨b, hbv⟩ : ∃ b : Int, ((bitN a (c - 1) : Nat) : Int) = b := ⟨_, rfl⟩
        have hc : wr.cell? ⟨g, i.toNat, none⟩ = some (.int .i64 b) := by
          rw [hb.cell (p := ⟨g, i.toNat, none⟩) gl, HR.out.2 i.toNat (by omega), show i.toNat = c - 1 by omega, hbv]
        have b0 : 0 ≤ b ∧ b ≤ 1 := by omega
        have NX : Hid (i - 1 = ((c - 1 : Nat) : Int) - 1 ∧ x * 2 + b = ((a / 2 ^ (c - 1) : Nat) : Int)) := ⟨by omega, by omega⟩
        have lx : x * 2 + b < 18446744073709551616 := by omega
        have gn0 : g ≠ w.heap.size + 1 := by omega
        clear hi hx up c1' lim b1 hbv HI
        go_wp2
        go_region
        go_wp2
        go_roundw
        case measure => simp [intOf]; omega
        case rel =>
          refine ⟨c - 1, i - 1, x * 2 + b, rfl, NX, by omega, by omega, by omega, by omega, by simp [World.cell?_setCell_same', World.cell?_setCell_other, c0, c1, d0, d1, f0, f1], by simp [World.cell?_setCell_same', World.cell?_setCell_other, c0, c1, d0, d1, f0, f1], by simp [World.cell?_setCell_same', World.cell?_setCell_other, c0, c1, d0, d1, f0, f1], by simp [World.cell?_setCell_same', World.cell?_setCell_other, c0, c1, d0, d1, f0, f1], by simp [World.cell?_setCell_same', World.cell?_setCell_other, c0, c1, d0, d1, f0, f1], by simp [World.cell?_setCell_same', World.cell?_setCell_other, c0, c1, d0, d1, f0, f1], by simp [World.setCell]; omega, by repeat (first | with_reducible exact Below.refl _ _ | with_reducible refine Below.drew ?_ | with_reducible refine Below.alloc ?_ (by first | omega | (simp <;> omega)) _ | with_reducible refine Below.setCell ?_ (by first | omega | (simp <;> omega)) _ | with_reducible refine Below.trans ?_ (Below.mono hb (by first | omega | (simp <;> omega))))⟩
      · have bz : bitN a (c - 1) = 0 := bitN_big ha (by omega)
        have NX : Hid (i - 1 = ((c - 1 : Nat) : Int) - 1 ∧ x * 2 = ((a / 2 ^ (c - 1) : Nat) : Int)) := ⟨by omega, by omega⟩
        have lx : x * 2 < 18446744073709551616 := by omega
        clear hi hx up c1' lim b1 bz HI
        go_wp2
        go_roundw
        case measure => simp [intOf]; omega
        case rel =>
          refine ⟨c - 1, i - 1, x * 2, rfl, NX, by omega, by omega, by omega, by omega, by simp [World.cell?_setCell_same', World.cell?_setCell_other, c0, c1, d0, d1, f0, f1], by simp [World.cell?_setCell_same', World.cell?_setCell_other, c0, c1, d0, d1, f0, f1], by simp [World.cell?_setCell_same', World.cell?_setCell_other, c0, c1, d0, d1, f0, f1], by simp [World.cell?_setCell_same', World.cell?_setCell_other, c0, c1, d0, d1, f0, f1], by simp [World.cell?_setCell_same', World.cell?_setCell_other, c0, c1, d0, d1, f0, f1], by simp [World.cell?_setCell_same', World.cell?_setCell_other, c0, c1, d0, d1, f0, f1], by simp [World.setCell]; omega, by repeat (first | with_reducible exact Below.refl _ _ | with_reducible refine Below.drew ?_ | with_reducible refine Below.alloc ?_ (by first | omega | (simp <;> omega)) _ | with_reducible refine Below.setCell ?_ (by first | omega | (simp <;> omega)) _ | with_reducible refine Below.trans ?_ (Below.mono hb (by first | omega | (simp <;> omega))))⟩
    · obtain ⟨hi, hx⟩ := HI.out
      have i63 : i = 63 := by omega
      have c64 : c = 64 := by omega
      have HX : Hid (x = ((a / 18446744073709551616 : Nat) : Int)) := by
        rw [hx, c64]; rfl
      have hi2 : i < 64 := by omega
      have hd : decide (64 ≤ i) = false := by simp; omega
      clear hi hx i63 c64 HI hlt
      go_wp2_with fail
      obtain ⟨m, hmv⟩ : ∃ m : Nat, a % 18446744073709551616 = m := ⟨_, rfl⟩
      have m1 : m < 18446744073709551616 := by omega
      have HM : Hid (a % 18446744073709551616 = m) := hmv
      clear hmv
      obtain ⟨i9, hi9⟩ : ∃ i9 : Int, i9 = i := ⟨_, rfl⟩
      go_loopw [5] (fun t wr => ∃ (c : Nat) (i y : Int), t = .int .i64 i ∧ Hid (i = (c : Int) - 1 ∧ y = ((m / 2 ^ c : Nat) : Int)) ∧ -1 ≤ i ∧ i ≤ 63 ∧ 0 ≤ y ∧ y < 18446744073709551616 ∧
          wr.cell? ⟨w.heap.size + 1, 0, none⟩ = some (.int .u64 x) ∧ wr.cell? ⟨w.heap.size + 1, 1, none⟩ = some (.int .u64 y) ∧ (∀ o, wr.frozen? ⟨w.heap.size + 1, o, none⟩ = false) ∧
          wr.cell? ⟨w.heap.size, 0, none⟩ = some (.int .u64 0) ∧ wr.cell? ⟨w.heap.size, 1, none⟩ = some (.int .u64 0) ∧ (∀ o, wr.frozen? ⟨w.heap.size, o, none⟩ = false) ∧ w.heap.size + 1 < wr.heap.size ∧ Below w.heap.size w wr) (fun t _ => (intOf t + 1).toNat)
      case atStart =>
        refine ⟨64, 63, 0, rfl, ⟨by omega, ?_⟩, by omega, by omega, by omega, by omega, c0, c1, f0, d0, d1, f1, hz, hb⟩
        rw [show 2 ^ 64 = 18446744073709551616 by decide, Nat.div_eq_of_lt m1]; rfl
      case round =>
        clear c0 c1 f0 d0 d1 f1 hz hb hi9 hd hi2
        obtain ⟨c, i, y, rfl, HI, i0, i1, y0, y1, c0, c1, f0, d0, d1, f1, hz, hb⟩ := hrel
        by_cases hlt : 0 ≤ i
        · obtain ⟨hi, hx⟩ := HI.out
          have up := half_up m (c - 1)
          have c1' : c - 1 + 1 = c := by omega
          rw [c1'] at up
          have lim : m / 2 ^ (c - 1) ≤ m := Nat.div_le_self _ _
          have b1 := bitN_le m (c - 1)
          have bb : bitN m (c - 1) = bitN a (c - 1) := by rw [← HM.out]; exact mod_bit a (c - 1) (by omega)
          by_cases hin : i < (n : Int)
          · obtain ⟨b, hbv⟩ : ∃ b : Int, ((bitN m (c - 1) : Nat) : Int) = b := ⟨_, rfl⟩
            have hc : wr.cell? ⟨g, i.toNat, none⟩ = some (.int .i64 b) := by
              rw [hb.cell (p := ⟨g, i.toNat, none⟩) gl, HR.out.2 i.toNat (by omega), show i.toNat = c - 1 by omega, ← bb, hbv]
            have b0 : 0 ≤ b ∧ b ≤ 1 := by omega
            have NX : Hid (i - 1 = ((c - 1 : Nat) : Int) - 1 ∧ y * 2 + b = ((m / 2 ^ (c - 1) : Nat) : Int)) := ⟨by omega, by omega⟩
            have lx : y * 2 + b < 18446744073709551616 := by omega
            have gn0 : g ≠ w.heap.size + 1 := by omega
            clear hi hx up c1' lim b1 hbv HI bb
            go_wp2
            go_region
            go_wp2
            go_roundw
            case measure => simp [intOf]; omega
            case rel =>
              refine ⟨c - 1, i - 1, y * 2 + b, rfl, NX, by omega, by omega, by omega, by omega, by simp [World.cell?_setCell_same', World.cell?_setCell_other, c0, c1, d0, d1, f0, f1], by simp [World.cell?_setCell_same', World.cell?_setCell_other, c0, c1, d0, d1, f0, f1], by simp [World.cell?_setCell_same', World.cell?_setCell_other, c0, c1, d0, d1, f0, f1], by simp [World.cell?_setCell_same', World.cell?_setCell_other, c0, c1, d0, d1, f0, f1], by simp [World.cell?_setCell_same', World.cell?_setCell_other, c0, c1, d0, d1, f0, f1], by simp [World.cell?_setCell_same', World.cell?_setCell_other, c0, c1, d0, d1, f0, f1], by simp [World.setCell]; omega, by repeat (first | with_reducible exact Below.refl _ _ | with_reducible refine Below.drew ?_ | with_reducible refine Below.alloc ?_ (by first | omega | (simp <;> omega)) _ | with_reducible refine Below.setCell ?_ (by first | omega | (simp <;> omega)) _ | with_reducible refine Below.trans ?_ (Below.mono hb (by first | omega | (simp <;> omega))))⟩
          · have bz : bitN m (c - 1) = 0 := by rw [bb]; exact bitN_big ha (by omega)
            have NX : Hid (i - 1 = ((c - 1 : Nat) : Int) - 1 ∧ y * 2 = ((m / 2 ^ (c - 1) : Nat) : Int)) := ⟨by omega, by omega⟩
            have lx : y * 2 < 18446744073709551616 := by omega
            clear hi hx up c1' lim b1 bz HI bb
            go_wp2
            go_roundw
            case measure => simp [intOf]; omega
            case rel =>
              refine ⟨c - 1, i - 1, y * 2, rfl, NX, by omega, by omega, by omega, by omega, by simp [World.cell?_setCell_same', World.cell?_setCell_other, c0, c1, d0, d1, f0, f1], by simp [World.cell?_setCell_same', World.cell?_setCell_other, c0, c1, d0, d1, f0, f1], by simp [World.cell?_setCell_same', World.cell?_setCell_other, c0, c1, d0, d1, f0, f1], by simp [World.cell?_setCell_same', World.cell?_setCell_other, c0, c1, d0, d1, f0, f1], by simp [World.cell?_setCell_same', World.cell?_setCell_other, c0, c1, d0, d1, f0, f1], by simp [World.cell?_setCell_same', World.cell?_setCell_other, c0, c1, d0, d1, f0, f1], by simp [World.setCell]; omega, by repeat (first | with_reducible exact Below.refl _ _ | with_reducible refine Below.drew ?_ | with_reducible refine Below.alloc ?_ (by first | omega | (simp <;> omega)) _ | with_reducible refine Below.setCell ?_ (by first | omega | (simp <;> omega)) _ | with_reducible refine Below.trans ?_ (Below.mono hb (by first | omega | (simp <;> omega))))⟩
        · obtain ⟨hi, hx⟩ := HI.out
          have cz : c = 0 := by omega
          have HY : Hid (y = (m : Int)) := by
            show y = (m : Int)
            rw [hx, cz]; simp
          clear hi hx cz HI
          have zz : w.heap.size < wr.heap.size := by omega
          go_wp2
          refine bodyPost_ret (v := nv x y) (by simp [results, Tryd.results50, go_sem, World.cell?_setCell_same', World.cell?_setCell_other, d0, d1, zz]) rfl ⟨x, y, rfl, ⟨?_, ?_, y0, y1, ?_⟩, by repeat (first | with_reducible exact Below.refl _ _ | with_reducible refine Below.drew ?_ | with_reducible refine Below.alloc ?_ (by first | omega | (simp <;> omega)) _ | with_reducible refine Below.setCell ?_ (by first | omega | (simp <;> omega)) _ | with_reducible refine Below.trans ?_ (Below.mono hb (by first | omega | (simp <;> omega))))⟩
          · have := HX.out; omega
          · have := HX.out; omega
          · have e1 := HX.out
            have e2 := HY.out
            have e3 := HM.out
            omega
end Go.Proofs.YtgbpnekinbdadaaDoor

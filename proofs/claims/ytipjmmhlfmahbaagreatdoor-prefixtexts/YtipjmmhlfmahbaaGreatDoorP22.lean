/-
  Texts Bits, RefNum of the proof.
-/
import Derived.Deep.DeepCutAuto
import Derived.Test.YtipjmmhlfmahbaaGreatDoorP2
import Derived.Test.YtipjmmhlfmahbaaGreatDoorP5

namespace Go.Proofs.YtipjmmhlfmahbaaGreatDoor
open Go.ChangeShapes Go.WideShapes Go.ChangeAt Go.RowKit
set_option linter.unusedVariables false
set_option linter.unusedSimpArgs false

theorem infoInt : (Tryz.prog.info? 3).map (fun i => (i.zero, i.size, i.bytes)) = some (some (.int .i64 0), 1, 8) := by kernel_rfl

/-- One round of the loops: what is known of the row and of the world behind an append of one number. -/
theorem grow_one {w wr w' : World} {v v' : Value} {k : Nat} {xs : List Int} {x : Int} {o : Obj} (hk : k < 1000000) (hb : Below w.heap.size w wr) (hs : w.heap.size ≤ wr.heap.size)
    (hown : wr.ownsRow w.heap.size 3 1 v k (xs.map (Value.int .i64)))
    (h1 : w'.ownsRow w.heap.size 3 1 v' (k + 1) (xs.map (Value.int .i64) ++ [.int .i64 x])) (h2 : (wr.alloc o).grownBy w' v.ownBlock) :
    w'.ownsRow w.heap.size 3 1 v' (k + 1) ((xs ++ [x]).map (Value.int .i64)) ∧ Below w.heap.size w w' := by
  refine ⟨by simpa using h1, ?_⟩
  refine Below.grown (hb.alloc hs o) h2 (by simp; omega) (fun j hj => ?_)
  have := (hown.lt j hj).1
  exact this

set_option maxHeartbeats 1000000 in
theorem bits_w (H L : Nat) (hH : H < 18446744073709551616) (hL : L < 18446744073709551616) (w : World) :
    Calls Tryz.prog 68 #[nv H L] w fun e w' => ∃ v, e = .returned v ∧ w'.ownsRow w.heap.size 3 1 v 128 ((bitsL (H * 18446744073709551616 + L) 128).map (Value.int .i64)) ∧ Below w.heap.size w w' := by
  obtain ⟨i0, hi, hz0, hz1, hz2⟩ := info_parts infoInt
  go_enter Tryz.func68, Tryz.ntmps68
  go_wp2_with fail
  go_loopw [3, 4, 6] (fun v x i wr => ∃ k : Nat, k ≤ 64 ∧ i = .int .i64 k ∧ x = .int .u64 ((L / 2 ^ k : Nat) : Int) ∧ wr.ownsRow w.heap.size 3 1 v k ((bitsL L k).map (Value.int .i64)) ∧ Below w.heap.size w wr) (fun _ _ i _ => 64 - (intOf i).toNat)
  case atStart =>
    refine ⟨0, by omega, rfl, by simp, ?_, by repeat (first | with_reducible exact Below.refl _ _ | with_reducible refine Below.drew ?_ | with_reducible refine Below.alloc ?_ (by first | omega | (simp <;> omega)) _ | with_reducible refine Below.setCell ?_ (by first | omega | (simp <;> omega)) _)⟩
    have := World.ownsRow_made (base := w.heap.size) (e := 3) (size := 1) (w.alloc (Obj.cells #[Value.int IntKind.u64 H, Value.int IntKind.u64 L] 24)) #[] 0 (by simp) (by unfold maxLen; omega) (by simp)
    simpa [bitsL] using this
  case round =>
    obtain ⟨k, hk, rfl, rfl, hown, hb⟩ := hrel
    have hs := hb.size
    by_cases hlt : k < 64
    · obtain ⟨x, hx⟩ : ∃ x : Int, x = ((L / 2 ^ k : Nat) : Int) := ⟨_, rfl⟩
      have x0 : 0 ≤ x := by rw [hx]; exact Int.natCast_nonneg _
      have x1 : x < 18446744073709551616 := by
        have := Nat.div_le_self L (2 ^ k)
        generalize L / 2 ^ k = z at *
        omega
      have HX : Hid (x = ((L / 2 ^ k : Nat) : Int)) := hx
      rw [← hx]
      clear hx
      have hki : (k : Int) < 64 := by omega
      go_wp2_with (first | (at_builtin; refine wpList_append_own _ rfl _ _ 69 rfl w.heap.size 3 i0 (.int .i64 0) 1 8 Tryz.underlying69 hi hz0 hz1 hz2 rfl (by decide) _ _ _ rfl (hown.alloc _) ⟨wr.heap.size, 0, none⟩ 1 1 [.int .i64 (x % 2)] rfl rfl ?c1 ?c2 ?c3 ?c4 ?c5 ?_))
      case c1 =>
        intro j u hj
        match j, hj with
        | 0, hj => simp at hj; subst hj; simp [Addr.add]
      case c2 => intro u hu; simp at hu; subst hu; rfl
      case c3 => unfold maxLen; omega
      case c4 => omega
      case c5 => simp; omega
      intro v' w1 hown' hgrow _
      obtain ⟨ho2, hb2⟩ := grow_one (by omega) hb hs hown hown' hgrow
      clear hown hown' hgrow
      go_wp2
      go_roundw
      case measure => simp [intOf]; omega
      case rel =>
        have e1 : x % 2 = ((bitN L k : Nat) : Int) := by rw [HX.out]; unfold bitN; omega
        have e2 : x / 2 = ((L / 2 ^ (k + 1) : Nat) : Int) := by rw [HX.out, Nat.pow_succ, ← Nat.div_div_eq_div_mul]; omega
        refine ⟨k + 1, by omega, by go_num, by rw [← e2], ?_, hb2⟩
        rw [e1] at ho2
        exact ho2
    · have k64 : k = 64 := by omega
      have hown64 : wr.ownsRow w.heap.size 3 1 u3 64 ((bitsL L 64).map (Value.int .i64)) := by rw [k64] at hown; exact hown
      obtain ⟨P, hP⟩ : ∃ P : List Int, bitsL L 64 = P := ⟨_, rfl⟩
      rw [hP] at hown64
      have HP : Hid (bitsL L 64 = P) := hP
      obtain ⟨q, hq⟩ : ∃ q : Int, ((L / 2 ^ k : Nat) : Int) = q := ⟨_, rfl⟩
      rw [hq]
      have hnl : ¬ (k : Int) < 64 := by omega
      clear hlt hP hown k64 hq
      go_wp2_with fail
      go_loopw [3, 5, 7] (fun v x i wr2 => ∃ k : Nat, k ≤ 64 ∧ i = .int .i64 k ∧ x = .int .u64 ((H / 2 ^ k : Nat) : Int) ∧ wr2.ownsRow w.heap.size 3 1 v (64 + k) ((P ++ bitsL H k).map (Value.int .i64)) ∧ Below w.heap.size w wr2) (fun _ _ i _ => 64 - (intOf i).toNat)
      case atStart => exact ⟨0, by omega, rfl, by simp, by simpa [show bitsL H 0 = [] from rfl] using hown64, hb⟩
      case round =>
        clear hown64 hb hs
        obtain ⟨k, hk, rfl, rfl, hown2, hb3⟩ := hrel
        have hs3 := hb3.size
        by_cases hlt : k < 64
        · obtain ⟨x, hx⟩ : ∃ x : Int, x = ((H / 2 ^ k : Nat) : Int) := ⟨_, rfl⟩
          have x0 : 0 ≤ x := by rw [hx]; exact Int.natCast_nonneg _
          have x1 : x < 18446744073709551616 := by
            have := Nat.div_le_self H (2 ^ k)
            generalize H / 2 ^ k = z at *
            omega
          have HX : Hid (x = ((H / 2 ^ k : Nat) : Int)) := hx
          rw [← hx]
          clear hx
          have hki : (k : Int) < 64 := by omega
          go_wp2_with (first | (at_builtin; refine wpList_append_own _ rfl _ _ 69 rfl w.heap.size 3 i0 (.int .i64 0) 1 8 Tryz.underlying69 hi hz0 hz1 hz2 rfl (by decide) _ _ _ rfl (hown2.alloc _) ⟨wr.heap.size, 0, none⟩ 1 1 [.int .i64 (x % 2)] rfl rfl ?e1 ?e2 ?e3 ?e4 ?e5 ?_))
          case e1 =>
            intro j u hj
            match j, hj with
            | 0, hj => simp at hj; subst hj; simp [Addr.add]
          case e2 => intro u hu; simp at hu; subst hu; rfl
          case e3 => unfold maxLen; omega
          case e4 => omega
          case e5 => simp; omega
          intro v' w1 hown' hgrow _
          obtain ⟨ho2, hb2⟩ := grow_one (k := 64 + k) (xs := P ++ bitsL H k) (x := x % 2) (by omega) hb3 hs3 (by simpa using hown2) (by simpa using hown') hgrow
          clear hown2 hown' hgrow
          go_wp2
          go_roundw
          case measure => simp [intOf]; omega
          case rel =>
            have e1 : x % 2 = ((bitN H k : Nat) : Int) := by rw [HX.out]; unfold bitN; omega
            have e2 : x / 2 = ((H / 2 ^ (k + 1) : Nat) : Int) := by rw [HX.out, Nat.pow_succ, ← Nat.div_div_eq_div_mul]; omega
            refine ⟨k + 1, by omega, by go_num, by rw [← e2], ?_, hb2⟩
            rw [e1] at ho2
            rw [bitsL, ← List.append_assoc, ← Nat.add_assoc]
            exact ho2
        · obtain rfl : k = 64 := by omega
          go_wp2
          go_ret
          refine ⟨_, rfl, ?_, hb3⟩
          rw [show (128 : Nat) = 64 + 64 from rfl, bitsL_high hL 64 (by omega), HP.out]
          exact hown2

/-- Block g holds the first n bits of a, one a cell. -/
def BitRow (w : World) (g n a : Nat) : Prop := g < w.heap.size ∧ ∀ i, i < n → w.cell? ⟨g, i, none⟩ = some (.int .i64 ((bitN a i : Nat) : Int))

theorem BitRow.below {W w1 : World} {g n a : Nat} (x : BitRow W g n a) (hb : Below W.heap.size W w1) : BitRow w1 g n a :=
  ⟨Nat.lt_of_lt_of_le x.1 hb.size, fun i hi => (hb.cell (p := ⟨g, i, none⟩) x.1).trans (x.2 i hi)⟩

theorem BitRow.alloc {W : World} {g n a : Nat} (x : BitRow W g n a) (o : Obj) : BitRow (W.alloc o) g n a :=
  ⟨by have := x.1; simp; omega, fun i hi => (World.cell?_alloc_lt _ _ _ x.1).trans (x.2 i hi)⟩

theorem BitRow.drew {W : World} {g n a : Nat} (x : BitRow W g n a) : BitRow W.drew g n a := x

theorem bitRow_of {w : World} {base n a : Nat} {v : Value} (hn : 0 < n) (h : w.ownsRow base 3 1 v n ((bitsL a n).map (Value.int .i64))) :
    ∃ g cap, v = .slice (some ⟨g, 0, none⟩) n cap ∧ base ≤ g ∧ n ≤ cap ∧ cap ≤ maxLen ∧ BitRow w g n a := by
  have h' := h
  obtain ⟨hl, ⟨rfl, h0⟩ | ⟨g, cap, cur, rfl, hg, hh, hc, hm, hs, ht⟩⟩ := h'
  · omega
  · refine ⟨g, cap, rfl, hg, hc, hm, ?_, fun i hi => ?_⟩
    · exact (h.lt g rfl).2
    · rw [World.ownsRow.cellAt h i (by omega), List.getElem?_map]
      have := bitsL_getD a n i hi
      rw [List.getD_eq_getElem?_getD] at this
      have hlt : i < (bitsL a n).length := by rw [bitsL_length]; exact hi
      rw [List.getElem?_eq_getElem hlt] at this ⊢
      simp only [Option.getD_some] at this
      simp [this]

/-- Bits: the number's 128 bits in a row of the call's own. -/
theorem bits_c {ah al : Int} {a : Nat} (ha : IsNum ah al a) (w : World) :
    Calls Tryz.prog 68 #[nv ah al] w fun e w' => ∃ g cap, e = .returned (.slice (some ⟨g, 0, none⟩) 128 cap) ∧ w.heap.size ≤ g ∧ BitRow w' g 128 a ∧ Below w.heap.size w w' := by
  obtain ⟨H, L, rfl, rfl, hH, hL, rfl⟩ := ha.nat
  refine (bits_w H L hH hL w).mono ?_
  rintro e w' ⟨v, rfl, ho, hb⟩
  obtain ⟨g, cap, rfl, hg, _, _, hr⟩ := bitRow_of (by omega) ho
  exact ⟨g, cap, rfl, hg, hr, hb⟩

end Go.Proofs.YtipjmmhlfmahbaaGreatDoor

namespace Go.Proofs.YtipjmmhlfmahbaaGreatDoor
open Go.ChangeShapes Go.WideShapes Go.ChangeAt Go.RowKit
set_option linter.unusedVariables false
set_option linter.unusedSimpArgs false

theorem half_up (a c : Nat) : a / 2 ^ c = 2 * (a / 2 ^ (c + 1)) + bitN a c := by
  unfold bitN
  rw [Nat.pow_succ, ← Nat.div_div_eq_div_mul]
  omega

theorem bitN_big {a n i : Nat} (h : a < 2 ^ n) (hi : n ≤ i) : bitN a i = 0 := by
  unfold bitN
  have : 2 ^ n ≤ 2 ^ i := Nat.pow_le_pow_right (by decide) hi
  rw [Nat.div_eq_of_lt (by omega)]

theorem mod_bit (a c : Nat) (hc : c < 64) : bitN (a % 18446744073709551616) c = bitN a c := by
  have h := Nat.div_add_mod a 18446744073709551616
  have := bitN_low (H := a / 18446744073709551616) (L := a % 18446744073709551616) hc
  rw [Nat.mul_comm, h] at this
  exact this.symm

set_option maxHeartbeats 1000000 in
theorem num_w (g n cap a : Nat) (hn : n ≤ 128) (ha : a < 2 ^ n) (hcap : n ≤ cap) (hm : cap ≤ maxLen) (w : World) (hr : BitRow w g n a) :
    Calls Tryz.prog 63 #[.slice (some ⟨g, 0, none⟩) n cap] w fun e w' => ∃ h l, e = .returned (nv h l) ∧ IsNum h l a ∧ Below w.heap.size w w' := by
  have a128 : a < 340282366920938463463374607431768211456 := by
    have : 2 ^ n ≤ 2 ^ 128 := Nat.pow_le_pow_right (by decide) hn
    rw [show 2 ^ 128 = 340282366920938463463374607431768211456 by decide] at this
    omega
  have HR : Hid (BitRow w g n a) := hr
  have gl := hr.1
  clear hr
  go_enter Tryz.func63, Tryz.ntmps63
  go_wp2_with fail
  go_loopw [4] (fun t wr => ∃ (c : Nat) (i x : Int), t = .int .i64 i ∧ Hid (i = (c : Int) - 1 ∧ x = ((a / 2 ^ c : Nat) : Int)) ∧ 63 ≤ i ∧ i ≤ 127 ∧ 0 ≤ x ∧ x < 18446744073709551616 ∧
      wr.cell? ⟨w.heap.size + 1, 0, none⟩ = some (.int .u64 x) ∧ wr.cell? ⟨w.heap.size + 1, 1, none⟩ = some (.int .u64 0) ∧ (∀ o, wr.frozen? ⟨w.heap.size + 1, o, none⟩ = false) ∧
      wr.cell? ⟨w.heap.size, 0, none⟩ = some (.int .u64 0) ∧ wr.cell? ⟨w.heap.size, 1, none⟩ = some (.int .u64 0) ∧ (∀ o, wr.frozen? ⟨w.heap.size, o, none⟩ = false) ∧ w.heap.size + 1 < wr.heap.size ∧ Below w.heap.size w wr) (fun t _ => (intOf t).toNat)
  case atStart =>
    refine ⟨128, 127, 0, rfl, ⟨by omega, ?_⟩, by omega, by omega, by omega, by omega, by simp, by simp, by simp, by simp, by simp, by simp, by simp, by repeat (first | with_reducible exact Below.refl _ _ | with_reducible refine Below.drew ?_ | with_reducible refine Below.alloc ?_ (by first | omega | (simp <;> omega)) _ | with_reducible refine Below.setCell ?_ (by first | omega | (simp <;> omega)) _)⟩
    rw [show 2 ^ 128 = 340282366920938463463374607431768211456 by decide, Nat.div_eq_of_lt a128]; rfl
  case round =>
    obtain ⟨c, i, x, rfl, HI, i0, i1, x0, x1, c0, c1, f0, d0, d1, f1, hz, hb⟩ := hrel
    by_cases hlt : 64 ≤ i
    · obtain ⟨hi, hx⟩ := HI.out
      have up := half_up a (c - 1)
      have c1' : c - 1 + 1 = c := by omega
      rw [c1'] at up
      have lim : a / 2 ^ (c - 1) < 18446744073709551616 := by
        rw [Nat.div_lt_iff_lt_mul (pow_pos2 _)]
        have : 2 ^ 64 ≤ 2 ^ (c - 1) := Nat.pow_le_pow_right (by decide) (by omega)
        rw [show 2 ^ 64 = 18446744073709551616 by decide] at this
        have : 18446744073709551616 * 18446744073709551616 ≤ 18446744073709551616 * 2 ^ (c - 1) := Nat.mul_le_mul_left _ this
        omega
      have b1 := bitN_le a (c - 1)
      by_cases hin : i < (n : Int)
      · obtain ⟨b, hbv⟩ : ∃ b : Int, ((bitN a (c - 1) : Nat) : Int) = b := ⟨_, rfl⟩
        have hc : wr.cell? ⟨g, i.toNat, none⟩ = some (.int .i64 b) := by
          rw [hb.cell (p := ⟨g, i.toNat, none⟩) gl, HR.out.2 i.toNat (by omega), show i.toNat = c - 1 by omega, hbv]
        have b0 : 0 ≤ b ∧ b ≤ 1 := by omega
        have NX : Hid (i - 1 = ((c - 1 : Nat) : Int) - 1 ∧ x * 2 + b = ((a / 2 ^ (c - 1) : Nat) : Int)) := ⟨by omega, by omega⟩
        have lx : x * 2 + b < 18446744073709551616 := by omega
        have gn0 : g ≠ w.heap.size + 1 := by omega
        clear hi hx up c1' lim b1 hbv HI
        go_wp2
        go_region
        go_wp2
        go_roundw
        case measure => simp [intOf]; omega
        case rel =>
          refine ⟨c - 1, i - 1, x * 2 + b, rfl, NX, by omega, by omega, by omega, by omega, by simp [World.cell?_setCell_same', World.cell?_setCell_other, c0, c1, d0, d1, f0, f1], by simp [World.cell?_setCell_same', World.cell?_setCell_other, c0, c1, d0, d1, f0, f1], by simp [World.cell?_setCell_same', World.cell?_setCell_other, c0, c1, d0, d1, f0, f1], by simp [World.cell?_setCell_same', World.cell?_setCell_other, c0, c1, d0, d1, f0, f1], by simp [World.cell?_setCell_same', World.cell?_setCell_other, c0, c1, d0, d1, f0, f1], by simp [World.cell?_setCell_same', World.cell?_setCell_other, c0, c1, d0, d1, f0, f1], by simp [World.setCell]; omega, by repeat (first | with_reducible exact Below.refl _ _ | with_reducible refine Below.drew ?_ | with_reducible refine Below.alloc ?_ (by first | omega | (simp <;> omega)) _ | with_reducible refine Below.setCell ?_ (by first | omega | (simp <;> omega)) _ | with_reducible refine Below.trans ?_ (Below.mono hb (by first | omega | (simp <;> omega))))⟩
      · have bz : bitN a (c - 1) = 0 := bitN_big ha (by omega)
        have NX : Hid (i - 1 = ((c - 1 : Nat) : Int) - 1 ∧ x * 2 = ((a / 2 ^ (c - 1) : Nat) : Int)) := ⟨by omega, by omega⟩
        have lx : x * 2 < 18446744073709551616 := by omega
        clear hi hx up c1' lim b1 bz HI
        go_wp2
        go_roundw
        case measure => simp [intOf]; omega
        case rel =>
          refine ⟨c - 1, i - 1, x * 2, rfl, NX, by omega, by omega, by omega, by omega, by simp [World.cell?_setCell_same', World.cell?_setCell_other, c0, c1, d0, d1, f0, f1], by simp [World.cell?_setCell_same', World.cell?_setCell_other, c0, c1, d0, d1, f0, f1], by simp [World.cell?_setCell_same', World.cell?_setCell_other, c0, c1, d0, d1, f0, f1], by simp [World.cell?_setCell_same', World.cell?_setCell_other, c0, c1, d0, d1, f0, f1], by simp [World.cell?_setCell_same', World.cell?_setCell_other, c0, c1, d0, d1, f0, f1], by simp [World.cell?_setCell_same', World.cell?_setCell_other, c0, c1, d0, d1, f0, f1], by simp [World.setCell]; omega, by repeat (first | with_reducible exact Below.refl _ _ | with_reducible refine Below.drew ?_ | with_reducible refine Below.alloc ?_ (by first | omega | (simp <;> omega)) _ | with_reducible refine Below.setCell ?_ (by first | omega | (simp <;> omega)) _ | with_reducible refine Below.trans ?_ (Below.mono hb (by first | omega | (simp <;> omega))))⟩
    · obtain ⟨hi, hx⟩ := HI.out
      have i63 : i = 63 := by omega
      have c64 : c = 64 := by omega
      have HX : Hid (x = ((a / 18446744073709551616 : Nat) : Int)) := by
        rw [hx, c64]; rfl
      have hi2 : i < 64 := by omega
      have hd : decide (64 ≤ i) = false := by simp; omega
      clear hi hx i63 c64 HI hlt
      go_wp2_with fail
      obtain ⟨m, hmv⟩ : ∃ m : Nat, a % 18446744073709551616 = m := ⟨_, rfl⟩
      have m1 : m < 18446744073709551616 := by omega
      have HM : Hid (a % 18446744073709551616 = m) := hmv
      clear hmv
      obtain ⟨i9, hi9⟩ : ∃ i9 : Int, i9 = i := ⟨_, rfl⟩
      go_loopw [5] (fun t wr => ∃ (c : Nat) (i y : Int), t = .int .i64 i ∧ Hid (i = (c : Int) - 1 ∧ y = ((m / 2 ^ c : Nat) : Int)) ∧ -1 ≤ i ∧ i ≤ 63 ∧ 0 ≤ y ∧ y < 18446744073709551616 ∧
          wr.cell? ⟨w.heap.size + 1, 0, none⟩ = some (.int .u64 x) ∧ wr.cell? ⟨w.heap.size + 1, 1, none⟩ = some (.int .u64 y) ∧ (∀ o, wr.frozen? ⟨w.heap.size + 1, o, none⟩ = false) ∧
          wr.cell? ⟨w.heap.size, 0, none⟩ = some (.int .u64 0) ∧ wr.cell? ⟨w.heap.size, 1, none⟩ = some (.int .u64 0) ∧ (∀ o, wr.frozen? ⟨w.heap.size, o, none⟩ = false) ∧ w.heap.size + 1 < wr.heap.size ∧ Below w.heap.size w wr) (fun t _ => (intOf t + 1).toNat)
      case atStart =>
        refine ⟨64, 63, 0, rfl, ⟨by omega, ?_⟩, by omega, by omega, by omega, by omega, c0, c1, f0, d0, d1, f1, hz, hb⟩
        rw [show 2 ^ 64 = 18446744073709551616 by decide, Nat.div_eq_of_lt m1]; rfl
      case round =>
        clear c0 c1 f0 d0 d1 f1 hz hb hi9 hd hi2
        obtain ⟨c, i, y, rfl, HI, i0, i1, y0, y1, c0, c1, f0, d0, d1, f1, hz, hb⟩ := hrel
        by_cases hlt : 0 ≤ i
        · obtain ⟨hi, hx⟩ := HI.out
          have up := half_up m (c - 1)
          have c1' : c - 1 + 1 = c := by omega
          rw [c1'] at up
          have lim : m / 2 ^ (c - 1) ≤ m := Nat.div_le_self _ _
          have b1 := bitN_le m (c - 1)
          have bb : bitN m (c - 1) = bitN a (c - 1) := by rw [← HM.out]; exact mod_bit a (c - 1) (by omega)
          by_cases hin : i < (n : Int)
          · obtain ⟨b, hbv⟩ : ∃ b : Int, ((bitN m (c - 1) : Nat) : Int) = b := ⟨_, rfl⟩
            have hc : wr.cell? ⟨g, i.toNat, none⟩ = some (.int .i64 b) := by
              rw [hb.cell (p := ⟨g, i.toNat, none⟩) gl, HR.out.2 i.toNat (by omega), show i.toNat = c - 1 by omega, ← bb, hbv]
            have b0 : 0 ≤ b ∧ b ≤ 1 := by omega
            have NX : Hid (i - 1 = ((c - 1 : Nat) : Int) - 1 ∧ y * 2 + b = ((m / 2 ^ (c - 1) : Nat) : Int)) := ⟨by omega, by omega⟩
            have lx : y * 2 + b < 18446744073709551616 := by omega
            have gn0 : g ≠ w.heap.size + 1 := by omega
            clear hi hx up c1' lim b1 hbv HI bb
            go_wp2
            go_region
            go_wp2
            go_roundw
            case measure => simp [intOf]; omega
            case rel =>
              refine ⟨c - 1, i - 1, y * 2 + b, rfl, NX, by omega, by omega, by omega, by omega, by simp [World.cell?_setCell_same', World.cell?_setCell_other, c0, c1, d0, d1, f0, f1], by simp [World.cell?_setCell_same', World.cell?_setCell_other, c0, c1, d0, d1, f0, f1], by simp [World.cell?_setCell_same', World.cell?_setCell_other, c0, c1, d0, d1, f0, f1], by simp [World.cell?_setCell_same', World.cell?_setCell_other, c0, c1, d0, d1, f0, f1], by simp [World.cell?_setCell_same', World.cell?_setCell_other, c0, c1, d0, d1, f0, f1], by simp [World.cell?_setCell_same', World.cell?_setCell_other, c0, c1, d0, d1, f0, f1], by simp [World.setCell]; omega, by repeat (first | with_reducible exact Below.refl _ _ | with_reducible refine Below.drew ?_ | with_reducible refine Below.alloc ?_ (by first | omega | (simp <;> omega)) _ | with_reducible refine Below.setCell ?_ (by first | omega | (simp <;> omega)) _ | with_reducible refine Below.trans ?_ (Below.mono hb (by first | omega | (simp <;> omega))))⟩
          · have bz : bitN m (c - 1) = 0 := by rw [bb]; exact bitN_big ha (by omega)
            have NX : Hid (i - 1 = ((c - 1 : Nat) : Int) - 1 ∧ y * 2 = ((m / 2 ^ (c - 1) : Nat) : Int)) := ⟨by omega, by omega⟩
            have lx : y * 2 < 18446744073709551616 := by omega
            clear hi hx up c1' lim b1 bz HI bb
            go_wp2
            go_roundw
            case measure => simp [intOf]; omega
            case rel =>
              refine ⟨c - 1, i - 1, y * 2, rfl, NX, by omega, by omega, by omega, by omega, by simp [World.cell?_setCell_same', World.cell?_setCell_other, c0, c1, d0, d1, f0, f1], by simp [World.cell?_setCell_same', World.cell?_setCell_other, c0, c1, d0, d1, f0, f1], by simp [World.cell?_setCell_same', World.cell?_setCell_other, c0, c1, d0, d1, f0, f1], by simp [World.cell?_setCell_same', World.cell?_setCell_other, c0, c1, d0, d1, f0, f1], by simp [World.cell?_setCell_same', World.cell?_setCell_other, c0, c1, d0, d1, f0, f1], by simp [World.cell?_setCell_same', World.cell?_setCell_other, c0, c1, d0, d1, f0, f1], by simp [World.setCell]; omega, by repeat (first | with_reducible exact Below.refl _ _ | with_reducible refine Below.drew ?_ | with_reducible refine Below.alloc ?_ (by first | omega | (simp <;> omega)) _ | with_reducible refine Below.setCell ?_ (by first | omega | (simp <;> omega)) _ | with_reducible refine Below.trans ?_ (Below.mono hb (by first | omega | (simp <;> omega))))⟩
        · obtain ⟨hi, hx⟩ := HI.out
          have cz : c = 0 := by omega
          have HY : Hid (y = (m : Int)) := by
            show y = (m : Int)
            rw [hx, cz]; simp
          clear hi hx cz HI
          have zz : w.heap.size < wr.heap.size := by omega
          go_wp2
          refine bodyPost_ret (v := nv x y) (by simp [results, Tryz.results63, go_sem, World.cell?_setCell_same', World.cell?_setCell_other, d0, d1, zz]) rfl ⟨x, y, rfl, ⟨?_, ?_, y0, y1, ?_⟩, by repeat (first | with_reducible exact Below.refl _ _ | with_reducible refine Below.drew ?_ | with_reducible refine Below.alloc ?_ (by first | omega | (simp <;> omega)) _ | with_reducible refine Below.setCell ?_ (by first | omega | (simp <;> omega)) _ | with_reducible refine Below.trans ?_ (Below.mono hb (by first | omega | (simp <;> omega))))⟩
          · have := HX.out; omega
          · have := HX.out; omega
          · have e1 := HX.out
            have e2 := HY.out
            have e3 := HM.out
            omega
end Go.Proofs.YtipjmmhlfmahbaaGreatDoor

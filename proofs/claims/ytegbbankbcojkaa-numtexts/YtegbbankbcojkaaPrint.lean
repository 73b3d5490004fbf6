/-
  num.Print: the decimal digits.
-/
import Derived.Test.YtegbbankbcojkaaDiv
import Derived.Test.YtegbbankbcojkaaDec
import Derived.Laws.BytesArg
namespace Go.Proofs.Ytegbbankbcojkaa
open Go.ChangeShapes Go.WideShapes Go.ChangeAt Go.RowKit
set_option linter.unusedVariables false
set_option linter.unusedSimpArgs false

theorem print_step (w1 : World) (B p : Nat) (d h' l' z h l : Value) (o : Obj) (hz : B + 1 < w1.heap.size) (c0 : w1.cell? ⟨B, 0, none⟩ = some h) (c1 : w1.cell? ⟨B, 1, none⟩ = some l) (cz : w1.cell? ⟨B + 1, p, none⟩ = some z) :
    ((((w1.setCell ⟨B + 1, p, none⟩ d).setCell ⟨B, 0, none⟩ h').setCell ⟨B, 1, none⟩ l').alloc o).cell? ⟨B, 0, none⟩ = some h' ∧
    ((((w1.setCell ⟨B + 1, p, none⟩ d).setCell ⟨B, 0, none⟩ h').setCell ⟨B, 1, none⟩ l').alloc o).cell? ⟨B, 1, none⟩ = some l' ∧
    (∀ b j, b < w1.heap.size → ((((w1.setCell ⟨B + 1, p, none⟩ d).setCell ⟨B, 0, none⟩ h').setCell ⟨B, 1, none⟩ l').alloc o).frozen? ⟨b, j, none⟩ = w1.frozen? ⟨b, j, none⟩) ∧
    ((((w1.setCell ⟨B + 1, p, none⟩ d).setCell ⟨B, 0, none⟩ h').setCell ⟨B, 1, none⟩ l').alloc o).cell? ⟨B + 1, p, none⟩ = some d ∧
    (∀ j, j ≠ p → ((((w1.setCell ⟨B + 1, p, none⟩ d).setCell ⟨B, 0, none⟩ h').setCell ⟨B, 1, none⟩ l').alloc o).cell? ⟨B + 1, j, none⟩ = w1.cell? ⟨B + 1, j, none⟩) := by
  have s : ((((w1.setCell ⟨B + 1, p, none⟩ d).setCell ⟨B, 0, none⟩ h').setCell ⟨B, 1, none⟩ l')).heap.size = w1.heap.size := by simp [World.setCell]
  refine ⟨?_, ?_, fun b j hb => ?_, ?_, fun j hj => ?_⟩
  · rw [World.cell?_alloc_lt _ _ _ (by rw [s]; show B < _; omega), World.cell?_setCell_other _ _ _ _ (by simp), World.cell?_setCell_same' _ _ _ (by rw [World.cell?_setCell_other _ _ _ _ (by simp), c0]; rfl)]
  · rw [World.cell?_alloc_lt _ _ _ (by rw [s]; show B < _; omega), World.cell?_setCell_same' _ _ _ (by rw [World.cell?_setCell_other _ _ _ _ (by simp), World.cell?_setCell_other _ _ _ _ (by simp), c1]; rfl)]
  · rw [World.frozen?_alloc_old _ _ _ (by rw [s]; show b ≠ _; omega)]; simp
  · rw [World.cell?_alloc_lt _ _ _ (by rw [s]; show B + 1 < _; omega), World.cell?_setCell_other _ _ _ _ (by simp), World.cell?_setCell_other _ _ _ _ (by simp), World.cell?_setCell_same' _ _ _ (by rw [cz]; rfl)]
  · rw [World.cell?_alloc_lt _ _ _ (by rw [s]; show B + 1 < _; omega), World.cell?_setCell_other _ _ _ _ (by simp), World.cell?_setCell_other _ _ _ _ (by simp), World.cell?_setCell_other _ _ _ _ (by simp)]

set_option maxHeartbeats 800000 in
theorem print_c {ah al : Int} {a : Nat} (ha : IsNum ah al a) (w : World) :
    Calls Try.prog 19 #[nv ah al] w fun e w' => ∃ j : Nat, e = .returned (.string (strOfNums (lowD a j))) ∧ IsDec a j ∧ Below w.heap.size w w' := by
  go_enter Try.func19, Try.ntmps19
  go_wp2_with fail
  go_loopw [4] (fun t wr => ∃ (j : Nat) (k h l : Int), t = .int .i64 k ∧ j ≤ 39 ∧ Hid (k = 39 - (j : Int)) ∧ 0 ≤ k ∧ k ≤ 39 ∧ IsNum h l (a / 10 ^ j) ∧ Hid (1 < j → 10 ^ (j - 1) ≤ a) ∧
      wr.cell? ⟨w.heap.size, 0, none⟩ = some (.int .u64 h) ∧ wr.cell? ⟨w.heap.size, 1, none⟩ = some (.int .u64 l) ∧ (∀ o, wr.frozen? ⟨w.heap.size, o, none⟩ = false) ∧ (∀ o, wr.frozen? ⟨w.heap.size + 1, o, none⟩ = false) ∧
      (∀ i : Nat, i + j < 39 → wr.cell? ⟨w.heap.size + 1, i, none⟩ = some (.int .u8 0)) ∧ (∀ i : Nat, i < j → wr.cell? ⟨w.heap.size + 1, 39 - j + i, none⟩ = some (.int .u8 ((lowD a j).getD i 0))) ∧
      w.heap.size + 1 < wr.heap.size ∧ Below w.heap.size w wr) (fun t _ => (intOf t).toNat)
  case atStart =>
    refine ⟨0, 39, ah, al, rfl, by omega, rfl, by omega, by omega, ha.cast (by simp), fun h => absurd h (by omega), by simp, by simp, by simp, by simp, ?_, fun i hi => absurd hi (by omega), by simp, by repeat (first | with_reducible exact Below.refl _ _ | with_reducible refine Below.drew ?_ | with_reducible refine Below.alloc ?_ (by first | omega | (simp <;> omega)) _ | with_reducible refine Below.setCell ?_ (by first | omega | (simp <;> omega)) _)⟩
    intro i hi
    have : i < 39 := by omega
    rw [World.cell?_alloc_at _ _ _ _ (by simp)]
    show (List.replicate 39 (Value.int .u8 0)).toArray[i]? = _
    rw [List.getElem?_toArray, List.getElem?_replicate, if_pos this]
  case round =>
    obtain ⟨j, k, h, l, rfl, j1, hk, k0, k1, hn, hge, c0, c1, f0, f1, z, dg, hz, hb⟩ := hrel
    have n0 := hn.h0; have n1 := hn.h1; have n2 := hn.l0; have n3 := hn.l1; have n4 := hn.eq
    have t0 : (h = 0 ∧ l = 0) ↔ a / 10 ^ j = 0 := by constructor <;> intro x <;> omega
    have n4' : Hid (h * 18446744073709551616 + l = ((a / 10 ^ j : Nat) : Int)) := n4
    clear n4
    go_upto_region 3 with fail
    go_cut [13] (fun t wc => t = .bool (decide (k = 39 ∨ a / 10 ^ j ≠ 0)) ∧ wc = wr)
    case first =>
      by_cases c : k = 39
      · subst c
        go_wp2
        go_meet
        case rel => exact ⟨by simp, rfl⟩
      · have c' : (k == 39) = false := by simpa using c
        by_cases d : h = 0
        · by_cases d2 : l = 0
          · have e : a / 10 ^ j = 0 := t0.1 ⟨d, d2⟩
            have e' : Hid (decide (k = 39 ∨ a / 10 ^ j ≠ 0) = false) := by show _ = _; simp [c, e]
            clear e t0
            go_wp2
            go_meet
            case rel => exact ⟨by rw [e'.out], rfl⟩
          · have e : a / 10 ^ j ≠ 0 := fun x => d2 (t0.2 x).2
            have e' : Hid (decide (k = 39 ∨ a / 10 ^ j ≠ 0) = true) := by show _ = _; simp [e]
            clear e t0
            go_wp2
            go_meet
            case rel => exact ⟨by rw [e'.out], rfl⟩
        · have e : a / 10 ^ j ≠ 0 := fun x => d (t0.2 x).1
          have e' : Hid (decide (k = 39 ∨ a / 10 ^ j ≠ 0) = true) := by show _ = _; simp [e]
          clear e t0
          go_wp2
          go_meet
          case rel => exact ⟨by rw [e'.out], rfl⟩
    case rest =>
      obtain ⟨rfl, rfl⟩ := hcut
      by_cases c : k = 39 ∨ a / 10 ^ j ≠ 0
      · have kp : 1 ≤ k := by
          rcases c with c | c
          · omega
          · have := hk.out
            apply Int.not_lt.1
            intro k2
            apply c
            have j39 : j = 39 := by omega
            have l1 := ha.lt
            rw [j39]
            have : (10 : Nat) ^ 39 = 1000000000000000000000000000000000000000 := by decide
            rw [this]
            exact Nat.div_eq_of_lt (by omega)
        have ct : decide (k = 39 ∨ a / 10 ^ j ≠ 0) = true := by simpa using c
        rw [ct]
        have G : Hid (1 < j + 1 → 10 ^ (j + 1 - 1) ≤ a) := by
          intro hj
          rcases c with c | c
          · have := hk.out; omega
          · rw [Nat.add_sub_cancel]
            have := Nat.pos_of_ne_zero c
            exact (Nat.div_pos_iff.1 this).2
        clear ct c t0 n4'
        go_wp2_with fail
        refine (over_c hn (by omega) (by omega) _).mono ?_
        rintro e w1 ⟨h', l', r, rfl, hn', hr, hb1⟩
        obtain ⟨r0, r1⟩ : 0 ≤ r ∧ r < 10 := by
          have x := hr.out
          have := Nat.mod_lt (a / 10 ^ j) (by decide : 0 < (10 : Int).toNat)
          constructor
          · omega
          · simp at this x; omega
        have hz1 : w.heap.size + 1 < w1.heap.size := by have := hb1.size; omega
        have hz0 : w.heap.size < w1.heap.size := by omega
        have c0' : w1.cell? ⟨w.heap.size, 0, none⟩ = some (.int .u64 h) := (hb1.cell (by show w.heap.size < _; omega)).trans c0
        have c1' : w1.cell? ⟨w.heap.size, 1, none⟩ = some (.int .u64 l) := (hb1.cell (by show w.heap.size < _; omega)).trans c1
        have f0' : ∀ o, w1.frozen? ⟨w.heap.size, o, none⟩ = false := fun o => (hb1.frozen (by show w.heap.size < _; omega)).trans (f0 o)
        have f1' : ∀ o, w1.frozen? ⟨w.heap.size + 1, o, none⟩ = false := fun o => (hb1.frozen (by show w.heap.size + 1 < _; omega)).trans (f1 o)
        have zz : w1.cell? ⟨w.heap.size + 1, k.toNat - 1, none⟩ = some (.int .u8 0) := (hb1.cell (by show w.heap.size + 1 < _; omega)).trans (z (k.toNat - 1) (by have := hk.out; omega))
        have Z : Hid (∀ i : Nat, i + j < 39 → w1.cell? ⟨w.heap.size + 1, i, none⟩ = some (.int .u8 0)) := fun i hi => (hb1.cell (by show w.heap.size + 1 < _; omega)).trans (z i hi)
        have DG : Hid (∀ i : Nat, i < j → w1.cell? ⟨w.heap.size + 1, 39 - j + i, none⟩ = some (.int .u8 ((lowD a j).getD i 0))) := fun i hi => (hb1.cell (by show w.heap.size + 1 < _; omega)).trans (dg i hi)
        have hB : Below w.heap.size w w1 := hb.trans (hb1.mono (by omega))
        clear z dg c0 c1 f0 f1 hb hb1 hz
        go_wp2
        obtain ⟨s1, s2, s3, s4, s5⟩ := print_step w1 w.heap.size (k.toNat - 1) (.int .u8 (48 + r)) (.int .u64 h') (.int .u64 l') _ _ _ (.cells #[.int .u64 h', .int .u64 l'] 24) hz1 c0' c1' zz
        have hk' := hk.out
        go_roundw
        case measure => simp [intOf]; omega
        case rel =>
          refine ⟨j + 1, k - 1, h', l', rfl, by omega, by show _ = _; omega, by omega, by omega, hn'.cast ?_, G, s1, s2, fun o => (s3 _ o hz0).trans (f0' o), fun o => (s3 _ o hz1).trans (f1' o), ?_, ?_, ?_, by repeat (first | with_reducible exact Below.refl _ _ | with_reducible refine Below.drew ?_ | with_reducible refine Below.alloc ?_ (by first | omega | (simp <;> omega)) _ | with_reducible refine Below.setCell ?_ (by first | omega | (simp <;> omega)) _ | with_reducible refine Below.trans ?_ (Below.mono hB (by first | omega | (simp <;> omega))))⟩
          · rw [Nat.div_div_eq_div_mul, Nat.pow_succ]; rfl
          · intro i hi
            rw [s5 i (by omega)]
            exact Z.out i (by omega)
          · intro i hi
            match i with
            | 0 =>
              rw [show 39 - (j + 1) + 0 = k.toNat - 1 by omega, s4]
              have : 48 + r = ((48 + a / 10 ^ j % 10 : Nat) : Int) := by
                have x := hr.out
                rw [x]; simp
              simp only [lowD, List.getD_cons_zero, this]
            | i' + 1 =>
              rw [show 39 - (j + 1) + (i' + 1) = 39 - j + i' by omega, s5 _ (by omega), DG.out i' (by omega)]
              simp only [lowD, List.getD_cons_succ]
          · simp; omega
      · have ct : decide (k = 39 ∨ a / 10 ^ j ≠ 0) = false := by simpa using c
        rw [ct]
        have hk' := hk.out
        have e0 : a / 10 ^ j = 0 := by omega
        have dec : IsDec a j := ⟨by omega, by
          rcases Nat.div_eq_zero_iff.1 e0 with x | x
          · exact absurd x (Nat.ne_of_gt (Nat.pow_pos (by decide)))
          · exact x, hge.out⟩
        have cv' := run_convert_bytes_arg (P := Try.prog) wc 55 5 Try.underlying55 Try.underlying5 (w.heap.size + 1) k.toNat (39 - k.toNat) (39 - k.toNat) (lowD a j) (by rw [lowD_length]; omega)
          (fun i hi => by rw [show k.toNat + i = 39 - j + i by omega]; exact dg i (by omega)) 9 Try.underlying9
        have k2 : k < 39 := by omega
        clear ct c t0 dg n4' hge e0 hk hk' z
        go_wp2
        go_ret
        exact ⟨j, rfl, dec, hb⟩
end Go.Proofs.Ytegbbankbcojkaa

/-
  Texts Hex of the proof.
-/
import Derived.Laws.Strings3
import Derived.Lib.ConvBytes
import Derived.Lib.Hide
import Derived.Lib.LaidTab
import Derived.Lib.Strings
import Derived.WalkSmall
import Derived.Test.YtipjmmhlfmahbaaGreatDoorP1
import Derived.Test.YtipjmmhlfmahbaaGreatDoorP5
import Derived.Test.YtipjmmhlfmahbaaGreatDoorP6
import Derived.Test.YtipjmmhlfmahbaaGreatDoorP7

namespace Go.Proofs.YtipjmmhlfmahbaaGreatDoor
open Go.ChangeShapes Go.WideShapes Go.ChangeAt Go.RowKit
set_option linter.unusedVariables false
set_option linter.unusedSimpArgs false

/-- What the library's variables hold, and that nothing below them is touched. -/
structure LW (w : World) : Prop where
  ml : ∃ m : Int, w.cell? ⟨0, 0, none⟩ = some (.int .i64 m)
  es : ∃ ev : Value, w.cell? ⟨4, 0, none⟩ = some ev ∧ (ev = .nilIface ∨ ∃ te pe, ev = .iface te pe)
  p10 : Lib.TabIs Tryz.prog w "internal/strconv.uint64pow10" .u64 Lib.pow10Tab
  db : w.cell? ⟨3, 15, none⟩ = some (.int .u8 4)
  sz : 6 ≤ w.heap.size

theorem LW.of {n : Nat} {w w' : World} (h : LW w) (hb : Below n w w') (hn : 6 ≤ n) : LW w' where
  ml := by obtain ⟨m, hm⟩ := h.ml; exact ⟨m, (hb.cell (p := ⟨0, 0, none⟩) (by show 0 < n; omega)).trans hm⟩
  es := by obtain ⟨m, hm, h2⟩ := h.es; exact ⟨m, (hb.cell (p := ⟨4, 0, none⟩) (by show 4 < n; omega)).trans hm, h2⟩
  p10 := by
    have := h.p10
    unfold Lib.TabIs at *
    exact var?_below (g := 1) hb (by kernel_rfl) (by omega) this
  db := (hb.cell (p := ⟨3, 15, none⟩) (by show 3 < n; omega)).trans h.db
  sz := Nat.le_trans h.sz hb.size

/-- A digit of base 16. -/
def hexD (c : Nat) : Option Nat := if 48 ≤ c ∧ c ≤ 57 then some (c - 48) else if 97 ≤ c ∧ c ≤ 102 then some (c - 87) else if 65 ≤ c ∧ c ≤ 70 then some (c - 55) else none

/-- Digits of base 16 behind a number. -/
def hexL (acc : Nat) : List UInt8 → Option Nat
  | [] => some acc
  | c :: r => match hexD c.toNat with
    | some d => hexL (acc * 16 + d) r
    | none => none

theorem hexD_lt {c d : Nat} (h : hexD c = some d) : d < 16 := by
  unfold hexD at h
  split at h
  · cases h; omega
  · split at h
    · cases h; omega
    · split at h
      · cases h; omega
      · cases h

theorem or32 : ∀ c : Fin 256, bits .or .u8 ((c.val : Nat) : Int) 32 = ((c.val ||| 32 : Nat) : Int) := by decide +kernel

theorem or32_cases : ∀ c : Fin 256, (48 ≤ c.val ∧ c.val ≤ 57) ∨ (hexD c.val = some ((c.val ||| 32) - 87) ∧ ¬ (48 ≤ c.val ∧ c.val ≤ 57) ∧ c.val ≠ 95 ∧ 97 ≤ (c.val ||| 32) ∧ (c.val ||| 32) ≤ 102) ∨ (hexD c.val = none ∧ ¬ (48 ≤ c.val ∧ c.val ≤ 57) ∧ ¬ (97 ≤ (c.val ||| 32) ∧ (c.val ||| 32) ≤ 102)) := by decide +kernel

theorem Lib.bytesWorld_below (w : World) (e : TypeId) (s : ByteArray) : Below w.heap.size w (Lib.bytesWorld w e s) where
  os := rfl
  tape := rfl
  output := rfl
  size := by rw [Lib.bytesWorld_size]; omega
  block := fun k hk => Lib.bytesWorld_at_old w e s k hk

theorem pow16 {k : Nat} (h : k ≤ 3) : 16 ^ k ≤ 4096 := by
  have : 16 ^ k ≤ 16 ^ 3 := Nat.pow_le_pow_right (by decide) h
  simpa using this

set_option maxHeartbeats 8000000 in
set_option maxRecDepth 100000 in
/-- internal/strconv.ParseUint(s, 16, 16) at one to four bytes: the number, or the error of what is no number. -/
theorem pu16_w (t : ByteArray) (hne : t.size ≠ 0) (hmax : t.size ≤ 4) (w : World) :
    Calls Tryz.prog 98 #[.string t, .int .i64 16, .int .i64 16] w fun e w' =>
      ((∃ v : Nat, hexL 0 t.data.toList = some v ∧ v < 65536 ∧ e = .returned (.tuple #[.int .u64 (v : Int), .nilIface])) ∨ (hexL 0 t.data.toList = none ∧ e = .returned (.tuple #[.int .u64 0, .iface 129 (.int .i64 2)]))) ∧ Below w.heap.size w w' := by
  have hemp : t.toList.isEmpty = false := by
    rw [← decide_eq_emptyBytes]
    exact decide_eq_false (fun h => hne (by rw [h]; rfl))
  have hcv := Lib.run_convert_string_bytes (P := Tryz.prog) w 9 63 5 t (u := .string) Tryz.underlying9 Tryz.underlying63 Tryz.underlying5
  have hB : ∀ j, j < t.size → (Lib.bytesWorld w 5 t).cell? ⟨w.heap.size, j, none⟩ = some (.int .u8 (t.data.toList.getD j 0).toNat) := fun j hj => Lib.bytesWorld_cell w 5 t j hj
  have HW := Lib.bytesWorld_below w 5 t
  obtain ⟨W1, hW1⟩ : ∃ W1, W1 = Lib.bytesWorld w 5 t := ⟨_, rfl⟩
  rw [← hW1] at hcv hB HW
  clear hW1
  obtain ⟨bs, hL⟩ : ∃ bs, bs = t.data.toList := ⟨_, rfl⟩
  have hLn : bs.length = t.size := by rw [hL, Lib.size_eq]
  rw [← hL] at hB ⊢
  clear hL
  have hmv : IntKind.u64.wrap (IntKind.u64.wrap 65536 - 1) = 65535 := by
    rw [IntKind.wrap_u64, IntKind.wrap_u64]
    decide
  go_enter Tryz.func98, Tryz.ntmps98
  go_wp2
  go_loop [12, 13, 101] (fun vu vn vi => ∃ (k acc : Nat) (a : Int), vu = .bool false ∧ vn = .int .u64 a ∧ vi = .int .i64 k ∧ k ≤ t.size ∧ Hid (a = (acc : Int) ∧ acc < 16 ^ k ∧ hexL 0 bs = hexL acc (bs.drop k)))
    (fun _ _ vi => t.size - (intOf vi).toNat)
  case atStart => exact ⟨0, 0, 0, rfl, rfl, rfl, by omega, rfl, by simp, rfl⟩
  case round =>
    obtain ⟨k, acc, a, rfl, rfl, rfl, hk, hh⟩ := hrel
    obtain ⟨ha, hacc, hdec⟩ := hh.out
    clear hh
    by_cases hkn : k < t.size
    · have hp := pow16 (show k ≤ 3 by omega)
      have a0 : 0 ≤ a := by omega
      have a1 : a < 4096 := by omega
      have hc := hB k hkn
      have hdrop : bs.drop k = bs[k]'(by omega) :: bs.drop (k + 1) := List.drop_eq_getElem_cons (by omega)
      have hget : bs.getD k 0 = bs[k]'(by omega) := by simp [List.getD, List.getElem?_eq_getElem (show k < bs.length by omega)]
      rw [hdrop] at hdec
      rw [hget] at hc
      generalize bs[k]'(by omega) = c at hc hdec
      have hc256 : c.toNat < 256 := c.toNat_lt
      clear hB hdrop hget
      have o1 := or32 ⟨c.toNat, hc256⟩
      have o2 := or32_cases ⟨c.toNat, hc256⟩
      simp only at o1 o2
      obtain ⟨y, hy⟩ : ∃ y : Nat, c.toNat ||| 32 = y := ⟨_, rfl⟩
      rw [hy] at o1 o2
      clear hy
      obtain ⟨x, hx⟩ : ∃ x : Int, x = (y : Int) := ⟨_, rfl⟩
      rw [← hx] at o1
      have pw : 16 ^ (k + 1) = 16 ^ k * 16 := Nat.pow_succ ..
      rcases o2 with ⟨hd0, hd1⟩ | ⟨hh, hnd, hnu, hx0, hx1⟩ | ⟨hh, hnd, hnx⟩
      · have hF : hexL acc (c :: bs.drop (k + 1)) = hexL (acc * 16 + (c.toNat - 48)) (bs.drop (k + 1)) := by simp [hexL, hexD, hd0, hd1]
        have HN : Hid (a * 16 + ((c.toNat : Int) - 48) = ((acc * 16 + (c.toNat - 48) : Nat) : Int) ∧ acc * 16 + (c.toNat - 48) < 16 ^ (k + 1) ∧ hexL 0 bs = hexL (acc * 16 + (c.toNat - 48)) (bs.drop (k + 1))) := Lib.hid ⟨by omega, by omega, hdec.trans hF⟩
        clear hacc hF hdec ha hp pw o1 hx
        go_wp2
        refine ⟨⟨k + 1, acc * 16 + (c.toNat - 48), a * 16 + ((c.toNat : Int) - 48), rfl, (by first | rfl | (congr 1; omega)), (by first | rfl | (congr 1; omega)), by omega, HN⟩, by simp [intOf]; omega⟩
      · have hF : hexL acc (c :: bs.drop (k + 1)) = hexL (acc * 16 + (y - 87)) (bs.drop (k + 1)) := by simp [hexL, hh]
        have HN : Hid (a * 16 + (x - 87) = ((acc * 16 + (y - 87) : Nat) : Int) ∧ acc * 16 + (y - 87) < 16 ^ (k + 1) ∧ hexL 0 bs = hexL (acc * 16 + (y - 87)) (bs.drop (k + 1))) := Lib.hid ⟨by omega, by omega, hdec.trans hF⟩
        have x0 : 97 ≤ x := by omega
        have x1 : x ≤ 102 := by omega
        have nd : ¬ (48 ≤ (c.toNat : Int) ∧ (c.toNat : Int) ≤ 57) := by omega
        have nu : ((c.toNat : Int) == 95) = false := by rw [beq_eq_false_iff_ne]; omega
        clear hacc hF hdec ha hp pw hx hh hnd hx0 hx1 hnu
        go_wp2_with (go_at_call 104; refine (Tryz.internal_strconv_lower _ _).mono ?_; rintro e w' ⟨rfl, rfl⟩)
        all_goals refine ⟨⟨k + 1, acc * 16 + (y - 87), a * 16 + (x - 87), rfl, (by first | rfl | (congr 1; omega)), (by first | rfl | (congr 1; omega)), by omega, HN⟩, by simp [intOf]; omega⟩
      · have hF : hexL acc (c :: bs.drop (k + 1)) = none := by simp [hexL, hh]
        rw [hF] at hdec
        have hnx' : ¬ (97 ≤ x ∧ x ≤ 102) := by omega
        have x1 : x ≤ 255 := by
          have := Nat.or_lt_two_pow (n := 8) hc256 (show 32 < 2 ^ 8 by decide)
          have := bits_hi_u8 .or (c.toNat : Int) 32
          omega
        have x0 : 0 ≤ x := by omega
        have nd : ¬ (48 ≤ (c.toNat : Int) ∧ (c.toNat : Int) ≤ 57) := by omega
        have hdec' : Hid (hexL 0 bs = none) := hdec
        have hu0 := bits_lo_u8 .or 95 32
        have hu1 := bits_hi_u8 .or 95 32
        clear hacc hF hdec ha hp pw hx hh hnd hnx
        go_wp2_with (go_at_call 104; refine (Tryz.internal_strconv_lower _ _).mono ?_; rintro e w' ⟨rfl, rfl⟩)
        all_goals go_ret2
        all_goals exact ⟨Or.inr ⟨hdec'.out, rfl⟩, HW⟩
    · have hkk : k = t.size := by omega
      subst hkk
      have hF : hexL acc (bs.drop t.size) = some acc := by rw [List.drop_eq_nil_of_le (by omega)]; rfl
      rw [hF] at hdec
      have hl : acc < 65536 := by
        have : 16 ^ t.size ≤ 16 ^ 4 := Nat.pow_le_pow_right (by decide) hmax
        rw [show (16 : Nat) ^ 4 = 65536 by decide] at this
        omega
      have hdec' : Hid (hexL 0 bs = some acc) := hdec
      have ha' : Hid (a = (acc : Int)) := ha
      clear hacc hF hdec ha
      go_wp2
      go_ret2
      exact ⟨Or.inl ⟨acc, hdec'.out, hl, by rw [ha'.out]; rfl⟩, HW⟩
end Go.Proofs.YtipjmmhlfmahbaaGreatDoor

/-
  Texts Fmt of the proof.
-/
import Derived.Deep.DeepCutAuto
import Derived.Laws.BytesArg
import Derived.Lib.AppendIntMem
import Derived.Lib.ItoaMem
import Derived.Lib.SmallJoins
import Derived.Test.YtipjmmhlfmahbaaGreatDoorP8

namespace Go.Proofs.YtipjmmhlfmahbaaGreatDoor
open Go.ChangeShapes Go.WideShapes Go.ChangeAt Go.RowKit Go.Sort
set_option linter.unusedVariables false
set_option linter.unusedSimpArgs false

theorem Lib.tabIs_alloc' {w : World} (h : Lib.TabIs Tryz.prog w "internal/strconv.uint64pow10" .u64 Lib.pow10Tab) (o : Obj) (hz : 6 ≤ w.heap.size) : Lib.TabIs Tryz.prog (w.alloc o) "internal/strconv.uint64pow10" .u64 Lib.pow10Tab := by
  unfold Lib.TabIs at *
  exact var?_below (B := w.heap.size) (g := 1) ((Below.refl _ _).alloc (Nat.le_refl _) o) (by kernel_rfl) (by omega) h

set_option maxHeartbeats 6400000 in
set_option maxRecDepth 100000 in
theorem fu10_big (u : Nat) (hu : 100 ≤ u) (hu64 : u < 18446744073709551616) (w : World) (hL : LW w) :
    Calls Tryz.prog 90 #[.int .u64 u, .int .i64 10] w fun e w' => e = .returned (.string ⟨(Lib.decDigits u).toArray⟩) ∧ Below w.heap.size w w' := by
  have hu1 : 1 ≤ u := by omega
  have hnd20 : Lib.nDigits u ≤ 20 := by have := Lib.numDigits_eq u hu1 hu64; split at this <;> omega
  have hal : Tryz.prog.arrayLen 110 = 24 := by kernel_rfl
  have hsl : ∀ W, (Instr.sliceAt 110 (.pointer (some ⟨w.heap.size, 0, none⟩)) none (some (.int .i64 (Lib.nDigits u : Int))) none).run Tryz.prog W = .ok (.slice (some ⟨w.heap.size, 0, none⟩) (Lib.nDigits u) 24) W := fun W => by
    rw [run_sliceAt_array_h W 110 ⟨w.heap.size, 0, none⟩ (by kernel_rfl) .i64 (Lib.nDigits u : Int) (by omega) (by rw [hal]; omega)]
    go_simp
  have hH0 := Lib.holds_zero0 w 110 (Lib.nDigits u) (by omega)
  have hfmt := Tryz.internal_strconv_formatBase10 w.heap.size 0 24 u (Array.replicate (Lib.nDigits u) 0) (w.alloc (.cells Lib.zeros24 110)) hH0 (by rw [Array.size_replicate]; exact Lib.lt_pow_nDigits u) hu64 (by rw [Array.size_replicate]; omega)
  rw [Array.size_replicate] at hfmt
  have HH0 := Lib.hid hH0
  have iu : (100 : Int) ≤ (u : Int) := by omega
  have htab := Lib.tabIs_alloc' hL.p10 (.cells Lib.zeros24 110) hL.sz
  clear hH0 hal hL
  go_enter Tryz.func90, Tryz.ntmps90
  go_wp2_with (first
    | (go_at_call 84; refine (Tryz.internal_strconv_numDigits u hu1 hu64 _ htab).mono ?_; rintro e w' ⟨rfl, rfl⟩))
  go_at_call 85
  refine hfmt.mono ?_
  rintro e w' ⟨rfl, k, v', dk, rfl, hF⟩
  have hcv : (convert 63 9 (.slice (some ⟨w.heap.size, 0, none⟩) (Lib.nDigits u) 24)).run Tryz.prog ((putRow (fun (b : UInt8) => Value.int .u8 (b.toNat : Int)) (w.alloc (.cells Lib.zeros24 110)) w.heap.size 0 dk).drewN k) = .ok (.string ⟨(Lib.decDigits u).toArray⟩) ((putRow (fun (b : UInt8) => Value.int .u8 (b.toNat : Int)) (w.alloc (.cells Lib.zeros24 110)) w.heap.size 0 dk).drewN k) := by
    have h := run_convert_bytes_back (P := Tryz.prog) ((putRow (fun (b : UInt8) => Value.int .u8 (b.toNat : Int)) (w.alloc (.cells Lib.zeros24 110)) w.heap.size 0 dk).drewN k) 63 9 5 ⟨w.heap.size, 0, none⟩ 24 (Lib.decDigits u) Tryz.underlying63 Tryz.underlying5 Tryz.underlying9 (fun j hj => by
      rw [Lib.row_is_numeral hF j hj, Lib.add_plain, World.cell?_drewN]
      exact cell?_putRow (fun (b : UInt8) => Value.int .u8 (b.toNat : Int)) _ w.heap.size 0 _ dk HH0.out (by rw [hF.size, Array.size_replicate]) j (by rw [hF.size]; rw [Lib.decDigits_length] at hj; exact hj))
    rw [Lib.decDigits_length] at h
    exact h
  obtain ⟨os, eo⟩ := Lib.fin_at w (.cells Lib.zeros24 110) dk k 0
  have hB : Below w.heap.size w ((putRow (fun (b : UInt8) => Value.int .u8 (b.toNat : Int)) (w.alloc (.cells Lib.zeros24 110)) w.heap.size 0 dk).drewN k) := by rw [eo]; exact Lib.below_grow w.heap.size w (Nat.le_refl _) k os
  generalize (putRow (fun (b : UInt8) => Value.int .u8 (b.toNat : Int)) (w.alloc (.cells Lib.zeros24 110)) w.heap.size 0 dk).drewN k = W2 at hcv hB ⊢
  clear eo HH0 hfmt hF
  go_wp2
  go_ret
  exact ⟨rfl, hB⟩

set_option maxHeartbeats 800000 in
theorem fu10_small (u : Nat) (hu : u < 100) (w : World) :
    Calls Tryz.prog 90 #[.int .u64 u, .int .i64 10] w fun e w' => e = .returned (.string ⟨(Lib.decDigits u).toArray⟩) ∧ Below w.heap.size w w' := by
  have iu : (u : Int) < 100 := by omega
  go_enter Tryz.func90, Tryz.ntmps90
  go_wp2_with (first
    | (go_at_call 83; refine (Tryz.internal_strconv_small u hu _).mono ?_; rintro e w' ⟨rfl, rfl⟩))
  go_ret
  exact ⟨rfl, by repeat (first | with_reducible exact Below.refl _ _ | with_reducible refine Below.drew ?_ | with_reducible refine Below.alloc ?_ (by first | omega | (simp <;> omega)) _ | with_reducible refine Below.setCell ?_ (by first | omega | (simp <;> omega)) _)⟩

set_option maxHeartbeats 800000 in
/-- strconv.FormatUint(u, 10): the decimal digits. -/
theorem fmt10_c (u : Nat) (hu : u < 18446744073709551616) (w : World) (hL : LW w) :
    Calls Tryz.prog 78 #[.int .u64 u, .int .i64 10] w fun e w' => e = .returned (.string ⟨(Lib.decDigits u).toArray⟩) ∧ Below w.heap.size w w' := by
  have hc : ∀ w, LW w → Calls Tryz.prog 90 #[.int .u64 u, .int .i64 10] w fun e w' => e = .returned (.string ⟨(Lib.decDigits u).toArray⟩) ∧ Below w.heap.size w w' := fun w h => by
    by_cases h1 : u < 100
    · exact fu10_small u h1 w
    · exact fu10_big u (by omega) hu w h
  go_enter Tryz.func78, Tryz.ntmps78
  go_wp2_with (go_at_call 90; refine (hc _ hL).mono ?_; rintro e w1 ⟨rfl, hb1⟩)
  go_ret
  exact ⟨rfl, hb1⟩
end Go.Proofs.YtipjmmhlfmahbaaGreatDoor

namespace Go.Proofs.YtipjmmhlfmahbaaGreatDoor
open Go.ChangeShapes Go.WideShapes Go.ChangeAt Go.RowKit
set_option linter.unusedVariables false
set_option linter.unusedSimpArgs false

/-- A digit of base 16, as a byte. -/
def hexI (x : Int) : Int := if x < 10 then 48 + x else 87 + x

/-- The last j digits of base 16, the highest first. -/
def lowH (n : Nat) : Nat → List Int
  | 0 => []
  | j + 1 => hexI ((n / 16 ^ j % 16 : Nat) : Int) :: lowH n j

theorem lowH_length (n : Nat) : ∀ j, (lowH n j).length = j
  | 0 => rfl
  | j + 1 => by simp [lowH, lowH_length n j]

/-- n has j digits of base 16. -/
structure IsHex (n j : Nat) : Prop where
  pos : 1 ≤ j
  lt : n < 16 ^ j
  ge : 1 < j → 16 ^ (j - 1) ≤ n

theorem hexI_bd (x : Int) (h0 : 0 ≤ x) (h1 : x < 16) : 48 ≤ hexI x ∧ hexI x ≤ 102 := by unfold hexI; split <;> omega

set_option maxHeartbeats 400000 in
theorem ipot_c (w : World) : Calls Tryz.prog 96 #[.int .i64 16] w fun e w' => e = .returned (.bool true) ∧ w' = w := by
  have h : bits .and .i64 16 15 = 0 := by decide +kernel
  go_enter Tryz.func96, Tryz.ntmps96
  go_wp2
  go_ret
  exact ⟨rfl, rfl⟩

set_option maxHeartbeats 400000 in
theorem tz64_c (w : World) (hL : LW w) : Calls Tryz.prog 103 #[.int .u64 16] w fun e w' => e = .returned (.int .i64 4) ∧ w' = w := by
  have h1 : bits .and .u64 16 (IntKind.u64.wrap (-16)) = 16 := by decide +kernel
  have h2 : IntKind.u64.wrap (16 * 285870213051386505) / 2 ^ 58 = 15 := by decide +kernel
  have hd := hL.db
  go_enter Tryz.func103, Tryz.ntmps103
  go_wp2
  go_ret
  exact ⟨rfl, rfl⟩

set_option maxHeartbeats 400000 in
theorem tz_c (w : World) (hL : LW w) : Calls Tryz.prog 97 #[.int .u64 16] w fun e w' => e = .returned (.int .i64 4) ∧ w' = w := by
  go_enter Tryz.func97, Tryz.ntmps97
  go_wp2_with (go_at_call 103; refine (tz64_c _ hL).mono ?_; rintro e w' ⟨rfl, rfl⟩)
  go_ret
  exact ⟨rfl, rfl⟩

/-- The library's row of digits. -/
def digs : ByteArray := ⟨#[48, 49, 50, 51, 52, 53, 54, 55, 56, 57, 97, 98, 99, 100, 101, 102, 103, 104, 105, 106, 107, 108, 109, 110, 111, 112, 113, 114, 115, 116, 117, 118, 119, 120, 121, 122]⟩

set_option maxRecDepth 100000 in
theorem digs_at (x : Int) (h0 : 0 ≤ x) (h1 : x < 16) (w : World) : (Instr.index 9 (.string digs) (.int .u64 x)).run Tryz.prog w = .ok (.int .u8 (hexI x)) w := by
  obtain ⟨n, rfl⟩ := Int.eq_ofNat_of_zero_le h0
  have : n = 0 ∨ n = 1 ∨ n = 2 ∨ n = 3 ∨ n = 4 ∨ n = 5 ∨ n = 6 ∨ n = 7 ∨ n = 8 ∨ n = 9 ∨ n = 10 ∨ n = 11 ∨ n = 12 ∨ n = 13 ∨ n = 14 ∨ n = 15 := by omega
  rcases this with rfl | rfl | rfl | rfl | rfl | rfl | rfl | rfl | rfl | rfl | rfl | rfl | rfl | rfl | rfl | rfl <;> rfl

/-- What the loop keeps: the last j digits lie in the row. -/
def FB (w : World) (u j : Nat) (wr : World) : Prop :=
  (∀ o, wr.frozen? ⟨w.heap.size, o, none⟩ = false) ∧ (∀ i : Nat, i + j < 65 → wr.cell? ⟨w.heap.size, i, none⟩ = some (.int .u8 0)) ∧
  (∀ i : Nat, i < j → wr.cell? ⟨w.heap.size, 65 - j + i, none⟩ = some (.int .u8 ((lowH u j).getD i 0))) ∧ w.heap.size < wr.heap.size ∧ Below w.heap.size w wr

theorem FB.put {w wr : World} {u j p : Nat} {d : Int} (h : FB w u j wr) (hp : p + j = 64) (hd : d = hexI ((u / 16 ^ j % 16 : Nat) : Int)) : FB w u (j + 1) (wr.setCell ⟨w.heap.size, p, none⟩ (.int .u8 d)) := by
  obtain ⟨f, z, g, s, b⟩ := h
  refine ⟨fun o => by simp [f o], fun i hi => ?_, fun i hi => ?_, by simpa using s, b.setCell (Nat.le_refl _) _⟩
  · rw [World.cell?_setCell_other _ _ _ _ (by simp <;> omega)]; exact z i (by omega)
  · match i with
    | 0 =>
      rw [show 65 - (j + 1) + 0 = p by omega, World.cell?_setCell_same' _ _ _ (by rw [z p (by omega)]; rfl), hd]
      simp [lowH]
    | i' + 1 =>
      rw [show 65 - (j + 1) + (i' + 1) = 65 - j + i' by omega, World.cell?_setCell_other _ _ _ _ (by simp <;> omega), g i' (by omega)]
      simp [lowH]

set_option maxHeartbeats 6400000 in
set_option maxRecDepth 100000 in
theorem fbits_w (u : Nat) (hu : u < 65536) (w : World) (hL : LW w) :
    Calls Tryz.prog 86 #[.slice none 0 0, .int .u64 u, .int .i64 16, .bool false, .bool false] w fun e w' => ∃ j, e = .returned (.tuple #[.slice none 0 0, .string (strOfNums (lowH u j))]) ∧ IsHex u j ∧ j ≤ 4 ∧ Below w.heap.size w w' := by
  obtain ⟨U, hU⟩ : ∃ U : Int, U = (u : Int) := ⟨_, rfl⟩
  rw [← hU]
  have hd := digs_at
  unfold digs at hd
  have L2 : ∀ W, Below w.heap.size w W → LW W := fun W h => hL.of h hL.sz
  have HU : Hid (U = (u : Int)) := hU
  clear hU
  go_enter Tryz.func86, Tryz.ntmps86
  go_wp2_with (first | (go_at_call 96; refine (ipot_c _).mono ?_; rintro e w' ⟨rfl, rfl⟩) | (go_at_call 97; refine (tz_c _ (L2 _ (by repeat (first | with_reducible exact Below.refl _ _ | with_reducible refine Below.drew ?_ | with_reducible refine Below.alloc ?_ (by first | omega | (simp <;> omega)) _ | with_reducible refine Below.setCell ?_ (by first | omega | (simp <;> omega)) _)))).mono ?_; rintro e w' ⟨rfl, rfl⟩))
  have z0 : Tryz.zeroCells122 = Array.replicate 65 (.int .u8 0) := by kernel_rfl
  have F0 : FB w u 0 (w.alloc (.cells Tryz.zeroCells122 122)) := by
    refine ⟨by simp, fun i hi => ?_, fun i hi => absurd hi (by omega), by simp, by repeat (first | with_reducible exact Below.refl _ _ | with_reducible refine Below.drew ?_ | with_reducible refine Below.alloc ?_ (by first | omega | (simp <;> omega)) _ | with_reducible refine Below.setCell ?_ (by first | omega | (simp <;> omega)) _)⟩
    rw [World.cell?_alloc_at _ _ _ _ rfl, z0]
    simp [show i < 65 by omega]
  clear z0
  go_loopw [1, 13] (fun a b wr => ∃ (j : Nat) (x k : Int), a = .int .u64 x ∧ b = .int .i64 k ∧ j ≤ 3 ∧ 0 ≤ x ∧ x < 65536 ∧ k ≤ 65 ∧ 62 ≤ k ∧ Hid (k = 65 - (j : Int)) ∧ Hid (x = ((u / 16 ^ j : Nat) : Int)) ∧ Hid (1 ≤ j → 16 ^ j ≤ u) ∧ FB w u j wr) (fun a _ _ => (intOf a).toNat)
  case atStart => exact ⟨0, U, 65, rfl, rfl, by omega, by have := HU.out; omega, by have := HU.out; omega, by omega, by omega, rfl, by show U = _; rw [HU.out]; simp, fun h => absurd h (by omega), F0⟩
  case round =>
    clear F0 L2 hL
    obtain ⟨j, x, k, rfl, rfl, j1, x0, x1, k1, k2, hk, hx, hge, F⟩ := hrel
    obtain ⟨X, rfl⟩ := Int.eq_ofNat_of_zero_le x0
    have hX := hx.out
    have hX' : X = u / 16 ^ j := by omega
    have hnd : bits .and .u64 (X : Int) 15 = ((X % 16 : Nat) : Int) := by
      rw [show (15 : Int) = ((15 : Nat) : Int) from rfl, bits_and_u64_nat _ _ (by omega) (by decide), show 15 = 2 ^ 4 - 1 from rfl, Nat.and_two_pow_sub_one_eq_mod]
    have hk' := hk.out
    have fz := F.1
    have cz : wr.cell? ⟨w.heap.size, k.toNat - 1, none⟩ = some (.int .u8 0) := F.2.1 _ (by omega)
    have hz := F.2.2.2.1
    obtain ⟨x, hxx⟩ : ∃ x : Int, x = (X : Int) := ⟨_, rfl⟩
    obtain ⟨r, hr⟩ : ∃ r : Int, r = ((X % 16 : Nat) : Int) := ⟨_, rfl⟩
    rw [← hr, ← hxx] at hnd
    have r0 : 0 ≤ r := by omega
    have r1 : r < 16 := by omega
    rw [← hxx] at x0 x1 ⊢
    by_cases c : 16 ≤ x
    · have hd' := hd r r0 r1
      have P : FB w u (j + 1) (wr.setCell ⟨w.heap.size, k.toNat - 1, none⟩ (.int .u8 (hexI r))) := F.put (by omega) (by rw [hr, hX'])
      have G : Hid (1 ≤ j + 1 → 16 ^ (j + 1) ≤ u) := by
        intro _
        rw [Nat.pow_succ]
        have : 16 ≤ u / 16 ^ j := by omega
        exact Nat.mul_comm _ _ ▸ (Nat.le_div_iff_mul_le (Nat.pow_pos (by decide))).1 this
      have j2 : j + 1 ≤ 3 := by
        have h := G.out (by omega)
        apply Nat.not_lt.1
        intro c2
        have : 16 ^ 4 ≤ 16 ^ (j + 1) := Nat.pow_le_pow_right (by decide) (by omega)
        rw [show (16 : Nat) ^ 4 = 65536 by decide] at this
        omega
      have HX : Hid (x = ((u / 16 ^ j : Nat) : Int)) := by rw [hxx, hX']; exact rfl
      clear hX hX' hx hr hxx hd hge F hk'
      go_wp2
      go_roundw
      case measure => simp [intOf]; omega
      case rel =>
        have hk' := hk.out
        refine ⟨j + 1, x / 16, k - 1, rfl, rfl, j2, by omega, by omega, by omega, by omega, by show _ = _; omega, ?_, G, P⟩
        show x / 16 = _
        rw [HX.out, Nat.pow_succ, ← Nat.div_div_eq_div_mul]
        rfl
    · have hxr : X % 16 = X := by omega
      have hrx : r = x := by omega
      have hd' := hd x x0 (by omega)
      have P : FB w u (j + 1) (wr.setCell ⟨w.heap.size, k.toNat - 1, none⟩ (.int .u8 (hexI x))) := F.put (by omega) (by rw [← hrx, hr, hX'])
      have hex : IsHex u (j + 1) := by
        refine ⟨by omega, ?_, fun h => hge.out (by omega)⟩
        have h1 : u / 16 ^ j < 16 := by omega
        rw [Nat.pow_succ, Nat.mul_comm]
        exact (Nat.div_lt_iff_lt_mul (Nat.pow_pos (by decide))).1 h1
      have sl : ∀ W, (Instr.sliceAt 122 (.pointer (some ⟨w.heap.size, 0, none⟩)) (some (.int .i64 (k - 1))) none none).run Tryz.prog W = .ok (.slice (some ⟨w.heap.size, k.toNat - 1, none⟩) (j + 1) (j + 1)) W := fun W => by
        have hal : Tryz.prog.arrayLen 122 = 65 := by kernel_rfl
        rw [run_sliceAt_array_l W 122 ⟨w.heap.size, 0, none⟩ (by kernel_rfl) .i64 (k - 1) (by omega) (by rw [hal]; omega)]
        rw [hal]
        go_simp
        omega
      have cv := run_convert_bytes_arg (P := Tryz.prog) (wr.setCell ⟨w.heap.size, k.toNat - 1, none⟩ (.int .u8 (hexI x))) 63 5 Tryz.underlying63 Tryz.underlying5 w.heap.size (k.toNat - 1) (j + 1) (j + 1) (lowH u (j + 1)) (lowH_length _ _)
        (fun i hi => by rw [show k.toNat - 1 + i = 65 - (j + 1) + i by omega]; exact P.2.2.1 i hi) 9 Tryz.underlying9
      have hB := P.2.2.2.2
      clear hX hX' hx hr hxx hd hge F hk' hk P hnd hrx hxr
      go_wp2
      go_ret2
      exact ⟨j + 1, rfl, hex, by omega, hB⟩
end Go.Proofs.YtipjmmhlfmahbaaGreatDoor

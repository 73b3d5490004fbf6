/-
  Package sum: overHalf, On, Of.
-/
import Derived.Test.YtahdgdoicpgcmaaDoorRows
import Derived.Test.YtahdgdoicpgcmaaDoorBlk
import Derived.Test.YtahdgdoicpgcmaaDoorSuM
import Derived.WalkKit
import Derived.ProofKit
import Derived.OpenShut
import Derived.WalkLawsBesides
import Derived.WalkSpells
import Derived.Outline
import Derived.Deep.DeepCutAuto
import Derived.Deep.RegionHeld
import Derived.Lib.Strings
import Derived.Laws.BytesArg
import Derived.Laws.BitsAllLaws
namespace Go.Proofs.YtahdgdoicpgcmaaDoor
open Go.ChangeShapes Go.WideShapes Go.ChangeAt Go.RowKit
set_option linter.unusedVariables false
set_option linter.unusedSimpArgs false

theorem hide {p : Prop} (h : p) : Hid p := h

theorem ret_num {k : IntKind} {a b : Int} (h : a = b) : Ending.returned (.int k a) = .returned (.int k b) := by rw [h]

/-- Byte i of a text. -/
def sb8 (s : ByteArray) (i : Nat) : Nat := (s.data.toList.getD i 0).toNat

theorem sb8_get (s : ByteArray) (i : Nat) (h : i < s.size) : s[i].toNat = sb8 s i := by
  unfold sb8
  have h' : i < s.data.toList.length := by rw [Array.length_toList]; exact h
  rw [List.getD_eq_getElem?_getD, List.getElem?_eq_getElem h']
  rfl

theorem sb8_lt (s : ByteArray) (i : Nat) : sb8 s i < 256 := by
  unfold sb8
  exact UInt8.toNat_lt _

/-- What the program's table holds. -/
def RM (W : World) : Prop := ∀ j, j < 16 → W.cell? ⟨0, j, none⟩ = some (.int .u32 ((remL.getD j 0 : Nat) : Int))

theorem RM.lt {w : World} (h : RM w) : 0 < w.heap.size := by
  have := h 0 (by decide)
  apply Classical.byContradiction
  intro c
  simp only [World.cell?] at this
  rw [Array.getElem?_eq_none (by omega)] at this
  cases this

theorem RM.below {w w' : World} (h : RM w) (hb : Below w.heap.size w w') : RM w' := fun j hj => (hb.cell (p := ⟨0, j, none⟩) h.lt).trans (h j hj)

theorem below_drewN8 {W : World} {B : Nat} {w : World} (h : Below B W w) : ∀ n, Below B W (w.drewN n)
  | 0 => h
  | n + 1 => Below.drew (below_drewN8 h n)

theorem remL_lt : ∀ i, i < 16 → remL.getD i 0 < 4294967296 := by decide

theorem ones32 {b : Nat} (hb : b < 4294967296) : 4294967295 ^^^ b = 4294967295 - b := by
  apply Nat.eq_of_testBit_eq
  intro i
  rw [Nat.testBit_xor, show (4294967295 : Nat) = 2 ^ 32 - 1 from rfl, Nat.testBit_two_pow_sub_one, show 2 ^ 32 - 1 - b = 2 ^ 32 - (b + 1) by omega, Nat.testBit_two_pow_sub_succ (by omega)]
  by_cases hi : i < 32
  · simp [hi]
  · have : b.testBit i = false := Nat.testBit_lt_two_pow (Nat.lt_of_lt_of_le (show b < 2 ^ 32 by omega) (Nat.pow_le_pow_right (by decide) (by omega)))
    simp [hi, this]

theorem not32 {b : Nat} (hb : b < 4294967296) : bits .xor .u32 IntKind.u32.max (b : Int) = ((4294967295 - b : Nat) : Int) := by
  have := u32_xor_nat 4294967295 b (by decide) hb
  rw [ones32 hb] at this
  exact this

set_option maxHeartbeats 1600000 in
theorem half_c {r t : Nat} (hr : r < 4294967296) (ht : stpN 4 r = t) (w : World) (hT : RM w) :
    Calls Tryd.prog 28 #[.int .u32 r] w fun e w' => e = .returned (.int .u32 (t : Int)) ∧ w' = w := by
  have e := rem_half r
  have l := remL_lt (r % 16) (Nat.mod_lt _ (by decide))
  have c := hT (r % 16) (Nat.mod_lt _ (by decide))
  rw [ht] at e
  obtain ⟨y, hy⟩ : ∃ y, remL.getD (r % 16) 0 = y := ⟨_, rfl⟩
  rw [hy] at e l c
  have x := u32_xor_nat (r / 16) y (by omega) l
  rw [← e] at x
  have x' : bits .xor .u32 ((r : Int) / 16) (y : Int) = (t : Int) := x
  obtain ⟨m, hm⟩ : ∃ m, r % 16 = m := ⟨_, rfl⟩
  have hm' : (r : Int) % 16 = (m : Int) := by rw [← hm]; rfl
  have ml : m < 16 := by omega
  rw [hm] at c
  clear hT e hy ht x
  go_enter Tryd.func28, Tryd.ntmps28
  go_wp2
  go_ret
  exact ⟨rfl, rfl⟩

/-- A byte more. -/
theorem byte_two {x c : Nat} : stpN 4 (stpN 4 (x ^^^ c)) = byF x c := (stpN_add (x ^^^ c) 4 4).symm

set_option maxRecDepth 100000 in
set_option maxHeartbeats 3200000 in
theorem on_c {n : Nat} (hn : n ≤ 4294967295) (s : ByteArray) (hs : s.size ≤ 1000000) {v : Nat} (hv : sumF n (sb8 s) s.size = v) (w : World) (hT : RM w) :
    Calls Tryd.prog 23 #[.int .u32 n, .string s] w fun e w' => e = .returned (.int .u32 (v : Int)) ∧ w' = w := by
  have HV := hide hv
  have HT := hide hT
  have HB := hide (fun k => onI_lt (r := 4294967295 - n) (f := sb8 s) (by omega) (sb8_lt s) k)
  have nt := not32 (b := n) (by omega)
  clear hv hT
  go_enter Tryd.func23, Tryd.ntmps23
  go_wp2_with fail
  go_loop [5, 11] (fun r i => ∃ k : Nat, k ≤ s.size ∧ i = .int .i64 k ∧ r = .int .u32 (onI (4294967295 - n) (sb8 s) k : Nat)) (fun _ i => s.size - (intOf i).toNat)
  case atStart => exact ⟨0, Nat.zero_le _, rfl, by first | rfl | (rw [nt]; rfl)⟩
  case round =>
    obtain ⟨k, hk, rfl, rfl⟩ := hrel
    have hX := HB.out k
    by_cases hlt : k < s.size
    · have hki : (k : Int) < (s.size : Int) := by omega
      have bg := sb8_get s k hlt
      have bl := sb8_lt s k
      have nx : Hid (onI (4294967295 - n) (sb8 s) (k + 1) = byF (onI (4294967295 - n) (sb8 s) k) (sb8 s k)) := rfl
      obtain ⟨X, eX⟩ : ∃ X, onI (4294967295 - n) (sb8 s) k = X := ⟨_, rfl⟩
      obtain ⟨c, ec⟩ : ∃ c, sb8 s k = c := ⟨_, rfl⟩
      rw [eX] at hX nx ⊢
      rw [ec] at bg bl nx
      have x1 := u32_xor_nat X c (by omega) (by omega)
      have l1 : X ^^^ c < 2 ^ 32 := Nat.xor_lt_two_pow hX (by omega)
      have b2 : byF X c = stpN 4 (stpN 4 (X ^^^ c)) := byte_two.symm
      obtain ⟨x2, e2⟩ : ∃ x2, X ^^^ c = x2 := ⟨_, rfl⟩
      rw [e2] at x1 l1 b2
      have l2 := stpN_lt l1 4
      obtain ⟨x3, e3⟩ : ∃ x3, stpN 4 x2 = x3 := ⟨_, rfl⟩
      rw [e3] at l2 b2
      obtain ⟨x4, e4⟩ : ∃ x4, stpN 4 x3 = x4 := ⟨_, rfl⟩
      rw [e4] at b2
      have C1 := hide (half_c (by omega) e3 w HT.out)
      have C2 := hide (half_c (by omega) e4 w HT.out)
      have NX : Hid (onI (4294967295 - n) (sb8 s) (k + 1) = x4) := nx.out.trans b2
      clear nx b2 e2 e3 e4 eX ec HB HV HT
      go_wp2_with fail
      refine C1.out.mono ?_
      rintro e w1 ⟨rfl, rfl⟩
      go_wp2_with fail
      refine C2.out.mono ?_
      rintro e w1 ⟨rfl, rfl⟩
      go_wp2
      go_round
      case rel => exact ⟨k + 1, by omega, by go_num, by rw [NX.out]⟩
      case measure => simp [intOf]; omega
    · obtain rfl : k = s.size := by omega
      have ne := not32 (b := onI (4294967295 - n) (sb8 s) s.size) (by omega)
      have hki : ¬ (s.size : Int) < (s.size : Int) := by omega
      have hv2 : 4294967295 - onI (4294967295 - n) (sb8 s) s.size = v := HV.out
      rw [hv2] at ne
      obtain ⟨X, eX⟩ : ∃ X, onI (4294967295 - n) (sb8 s) s.size = X := ⟨_, rfl⟩
      rw [eX] at ne ⊢
      clear hv2 eX hX HB HV
      go_wp2
      go_ret
      exact ⟨rfl, rfl⟩

set_option maxHeartbeats 800000 in
theorem of_c (s : ByteArray) (hs : s.size ≤ 1000000) {v : Nat} (hv : sumF 0 (sb8 s) s.size = v) (w : World) (hT : RM w) :
    Calls Tryd.prog 24 #[.string s] w fun e w' => e = .returned (.int .u32 (v : Int)) ∧ w' = w := by
  have C := hide (on_c (n := 0) (by decide) s hs hv w hT)
  clear hv hT
  go_enter Tryd.func24, Tryd.ntmps24
  go_wp2_with fail
  refine C.out.mono ?_
  rintro e w1 ⟨rfl, rfl⟩
  go_wp2
  go_ret
  exact ⟨rfl, rfl⟩
end Go.Proofs.YtahdgdoicpgcmaaDoor

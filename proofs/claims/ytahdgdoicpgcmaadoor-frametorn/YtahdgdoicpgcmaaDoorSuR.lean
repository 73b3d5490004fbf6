/-
  The reference of package sum: On.
-/
import Derived.Test.YtahdgdoicpgcmaaDoorSuA
namespace Go.Proofs.YtahdgdoicpgcmaaDoor
open Go.ChangeShapes Go.WideShapes Go.ChangeAt Go.RowKit
set_option linter.unusedVariables false
set_option linter.unusedSimpArgs false

theorem stp_odd {X : Nat} (hX : X < 4294967296) (h : X % 2 = 1) : bits .xor .u32 ((X : Int) / 2) 2197175160 = ((stp X : Nat) : Int) := by
  have := u32_xor_nat (X / 2) 2197175160 (by omega) (by decide)
  unfold stp
  rw [if_pos h]
  exact this

theorem stp_even {X : Nat} (h : ¬ X % 2 = 1) : ((X : Int) / 2) = ((stp X : Nat) : Int) := by
  unfold stp
  rw [if_neg h]
  rfl

set_option maxRecDepth 100000 in
set_option maxHeartbeats 3200000 in
theorem ron_c {n : Nat} (hn : n ≤ 4294967295) (s : ByteArray) (hs : s.size ≤ 1000000) {v : Nat} (hv : sumF n (sb8 s) s.size = v) (w : World) :
    Calls Tryd.prog 20 #[.int .u32 n, .string s] w fun e w' => e = .returned (.int .u32 (v : Int)) ∧ w' = w := by
  have HV := hide hv
  have HB := hide (fun k => onI_lt (r := 4294967295 - n) (f := sb8 s) (by omega) (sb8_lt s) k)
  clear hv
  go_enter Tryd.func20, Tryd.ntmps20
  go_wp2_with fail
  go_loop [5, 6] (fun r i => ∃ k : Nat, k ≤ s.size ∧ i = .int .i64 k ∧ r = .int .u32 (onI (4294967295 - n) (sb8 s) k : Nat)) (fun _ i => s.size - (intOf i).toNat)
  case atStart => exact ⟨0, Nat.zero_le _, rfl, by show Value.int _ _ = Value.int _ _; congr 1; show (4294967295 : Int) - n = ((4294967295 - n : Nat) : Int); omega⟩
  case round =>
    obtain ⟨k, hk, rfl, rfl⟩ := hrel
    have hX := HB.out k
    by_cases hlt : k < s.size
    · have hki : (k : Int) < (s.size : Int) := by omega
      have bg := sb8_get s k hlt
      have bl := sb8_lt s k
      have nx : Hid (onI (4294967295 - n) (sb8 s) (k + 1) = byF (onI (4294967295 - n) (sb8 s) k) (sb8 s k)) := rfl
      obtain ⟨X, eX⟩ : ∃ X, onI (4294967295 - n) (sb8 s) k = X := ⟨_, rfl⟩
      obtain ⟨c, ec⟩ : ∃ c, sb8 s k = c := ⟨_, rfl⟩
      rw [eX] at hX nx ⊢
      rw [ec] at bg bl nx
      have x1 := u32_xor_nat X c (by omega) (by omega)
      have l1 : X ^^^ c < 2 ^ 32 := Nat.xor_lt_two_pow hX (by omega)
      have b2 : byF X c = stpN 8 (X ^^^ c) := rfl
      obtain ⟨x2, e2⟩ : ∃ x2, X ^^^ c = x2 := ⟨_, rfl⟩
      rw [e2] at x1 l1 b2
      have L8 := hide (fun j => stpN_lt l1 j)
      have NX : Hid (onI (4294967295 - n) (sb8 s) (k + 1) = stpN 8 x2) := nx.out.trans b2
      clear nx b2 e2 eX ec HB HV
      go_wp2_with fail
      go_loop [5, 7] (fun r i => ∃ j : Nat, j ≤ 8 ∧ i = .int .i64 j ∧ r = .int .u32 (stpN j x2 : Nat)) (fun _ i => 8 - (intOf i).toNat)
      case atStart => exact ⟨0, Nat.zero_le _, rfl, rfl⟩
      case round =>
        obtain ⟨j, hj, rfl, rfl⟩ := hrel
        have hY := L8.out j
        by_cases hjl : j < 8
        · have hji : (j : Int) < 8 := by omega
          have ny : Hid (stpN (j + 1) x2 = stp (stpN j x2)) := rfl
          obtain ⟨Y, eY⟩ : ∃ Y, stpN j x2 = Y := ⟨_, rfl⟩
          rw [eY] at hY ny ⊢
          by_cases odd : Y % 2 = 1
          · have o1 : (Y : Int) % 2 = 1 := by omega
            have o2 := stp_odd (by omega) odd
            clear odd eY L8
            go_wp2
            go_round
            case rel => exact ⟨j + 1, by omega, by go_num, by rw [ny.out]⟩
            case measure => simp [intOf]; omega
          · have o1 : (Y : Int) % 2 = 0 := by omega
            have o2 := hide (stp_even odd)
            clear odd eY L8
            go_wp2
            go_round
            case rel => exact ⟨j + 1, by omega, by go_num, by rw [ny.out, ← o2.out]⟩
            case measure => simp [intOf]; omega
        · obtain rfl : j = 8 := by omega
          go_wp2
          go_round
          case rel => exact ⟨k + 1, by omega, by go_num, by rw [NX.out]⟩
          case measure => simp [intOf]; omega
    · obtain rfl : k = s.size := by omega
      have hki : ¬ (s.size : Int) < (s.size : Int) := by omega
      have hv2 : 4294967295 - onI (4294967295 - n) (sb8 s) s.size = v := HV.out
      obtain ⟨X, eX⟩ : ∃ X, onI (4294967295 - n) (sb8 s) s.size = X := ⟨_, rfl⟩
      rw [eX] at hv2 hX ⊢
      have HE : Hid ((4294967295 : Int) - X = v) := by show _ = _; omega
      clear hv2 eX HB HV
      go_wp2
      go_ret
      exact ⟨ret_num HE.out, rfl⟩
end Go.Proofs.YtahdgdoicpgcmaaDoor

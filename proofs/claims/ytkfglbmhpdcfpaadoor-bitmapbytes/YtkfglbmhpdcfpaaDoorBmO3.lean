/-
  OfBytes of package bitmap.
-/
import Derived.Test.YtkfglbmhpdcfpaaDoorBmO2
namespace Go.Proofs.YtkfglbmhpdcfpaaDoor
open Go.ChangeShapes Go.WideShapes Go.ChangeAt Go.RowKit
set_option linter.unusedVariables false
set_option linter.unusedSimpArgs false

theorem ofb_short (s : ByteArray) (hs : s.size < 4) (w : World) : Calls Tryd.prog 31 #[.string s] w fun e w' => e = .returned (.tuple #[.pointer none, .int .i64 4]) ∧ Below w.heap.size w w' := by
  have h1 : (s.size : Int) < 4 := by omega
  go_enter Tryd.func31, Tryd.ntmps31
  go_wp2_with fail
  go_ret2
  exact ⟨rfl, by repeat (first | with_reducible exact Below.refl _ _ | with_reducible refine Below.drew ?_ | with_reducible refine Below.alloc ?_ (by first | omega | (simp <;> omega)) _ | with_reducible refine Below.setCell ?_ (by first | omega | (simp <;> omega)) _)⟩

set_option maxHeartbeats 1000000 in
theorem ofb_bad (s : ByteArray) (hs : 4 ≤ s.size) (hz : s.size ≤ 9000) (hb : 65536 < toldT s ∨ (toldT s ≤ 65536 ∧ s.size ≠ bytesN (toldT s))) (w : World) : Calls Tryd.prog 31 #[.string s] w fun e w' => e = .returned (.tuple #[.pointer none, .int .i64 4]) ∧ Below w.heap.size w w' := by
  have h1 : ¬ (s.size : Int) < 4 := by omega
  have TC := hide (told_c s hs)
  have tl : toldT s < 4294967296 := toldV_lt s 4
  obtain ⟨T, hT⟩ : ∃ T, toldT s = T := ⟨_, rfl⟩
  rw [hT] at TC tl hb
  clear hT hs
  rcases hb with hb | ⟨hb, hne⟩
  · have h2 : (T : Int) > 65536 := by omega
    go_enter Tryd.func31, Tryd.ntmps31
    go_wp2_with fail
    refine (TC.out _).mono ?_
    rintro e w1 ⟨rfl, rfl⟩
    go_wp2_with fail
    go_ret2
    exact ⟨rfl, by repeat (first | with_reducible exact Below.refl _ _ | with_reducible refine Below.drew ?_ | with_reducible refine Below.alloc ?_ (by first | omega | (simp <;> omega)) _ | with_reducible refine Below.setCell ?_ (by first | omega | (simp <;> omega)) _)⟩
  · have h2 : ¬ (T : Int) > 65536 := by omega
    have BF := hide (fun w => bytesFor_c T hb w)
    unfold bytesN at hne
    obtain ⟨nb, hnb⟩ : ∃ nb, (T + 7) / 8 = nb := ⟨_, rfl⟩
    rw [hnb] at hne BF
    have hnl : nb ≤ 8192 := by omega
    have h3 : ((s.size : Int) != 4 + (nb : Int)) = true := by simp; omega
    clear hnb hne
    go_enter Tryd.func31, Tryd.ntmps31
    go_wp2_with fail
    refine (TC.out _).mono ?_
    rintro e w1 ⟨rfl, rfl⟩
    go_wp2_with fail
    refine (BF.out _).mono ?_
    rintro e w1 ⟨rfl, rfl⟩
    go_wp2_with fail
    go_ret2
    exact ⟨rfl, by repeat (first | with_reducible exact Below.refl _ _ | with_reducible refine Below.drew ?_ | with_reducible refine Below.alloc ?_ (by first | omega | (simp <;> omega)) _ | with_reducible refine Below.setCell ?_ (by first | omega | (simp <;> omega)) _)⟩

/-- What the loop has read. -/
def ReadI (s : ByteArray) (a g : Nat) (k : Nat) (W : World) : Prop := ∃ ws, MapAt W a g (toldT s) ws ∧ ∀ p, bitL ws p = (decide (p < 8 * k) && bitS s p)

theorem read_bits {s : ByteArray} {ws : List Nat} {k : Nat} (hk : k / 8 < ws.length) (hb : ∀ p, bitL ws p = (decide (p < 8 * k) && bitS s p)) : ∀ p, bitL (ws.set (k / 8) (ws.getD (k / 8) 0 ||| 2 ^ (8 * (k % 8)) * sb s (4 + k))) p = (decide (p < 8 * (k + 1)) && bitS s p) := by
  intro p
  rw [bitL_set hk]
  by_cases hp : p / 64 = k / 8
  · rw [if_pos hp, Nat.testBit_or, Nat.testBit_two_pow_mul]
    have e := hb p
    unfold bitL at e
    rw [hp] at e
    rw [e]
    have cl := sb_lt s (4 + k)
    by_cases h1 : p < 8 * k
    · have h2 : ¬ 8 * (k % 8) ≤ p % 64 := by omega
      rw [decide_eq_true h1, decide_eq_true (show p < 8 * (k + 1) by omega), decide_eq_false h2]
      simp
    · by_cases h3 : p < 8 * (k + 1)
      · have h2 : 8 * (k % 8) ≤ p % 64 := by omega
        rw [decide_eq_false h1, decide_eq_true h3, decide_eq_true h2]
        unfold bitS
        rw [show p / 8 = k by omega, show p % 64 - 8 * (k % 8) = p % 8 by omega]
        simp
      · rw [decide_eq_false h1, decide_eq_false h3, Bool.false_and, Bool.false_or]
        by_cases h2 : 8 * (k % 8) ≤ p % 64
        · rw [Nat.testBit_lt_two_pow (Nat.lt_of_lt_of_le cl (Nat.pow_le_pow_right (n := 2) (by decide) (show 8 ≤ p % 64 - 8 * (k % 8) by omega)))]
          simp
        · rw [decide_eq_false h2]; simp
  · rw [if_neg hp, hb p]
    by_cases h1 : p < 8 * k
    · rw [decide_eq_true h1, decide_eq_true (show p < 8 * (k + 1) by omega)]
    · rw [decide_eq_false h1, decide_eq_false (show ¬ p < 8 * (k + 1) by omega)]

def OH (a g k : Nat) (W : World) : Prop := W.cell? ⟨a, 1, none⟩ = some (.slice (some ⟨g, 0, none⟩) k k)

theorem read_or {x c r : Nat} (hx : x < 18446744073709551616) (hc : c < 256) (hr : r < 8) : IntKind.u64.wrap ((c : Int) * 2 ^ (8 * r)) = ((2 ^ (8 * r) * c : Nat) : Int) ∧ 2 ^ (8 * r) * c < 18446744073709551616 ∧ bits .or .u64 (x : Int) ((2 ^ (8 * r) * c : Nat) : Int) = ((x ||| 2 ^ (8 * r) * c : Nat) : Int) ∧ x ||| 2 ^ (8 * r) * c < 18446744073709551616 := by
  have p : 2 ^ (8 * r) ≤ 2 ^ 56 := Nat.pow_le_pow_right (by decide) (by omega)
  have l : 2 ^ (8 * r) * c < 18446744073709551616 := by
    calc 2 ^ (8 * r) * c ≤ 2 ^ 56 * 255 := Nat.mul_le_mul p (by omega)
      _ < 18446744073709551616 := by decide
  have e : (2 : Int) ^ (8 * r) = ((2 ^ (8 * r) : Nat) : Int) := by rw [Int.natCast_pow]; rfl
  refine ⟨?_, l, bits_or_u64_nat _ _ hx l, Nat.or_lt_two_pow (n := 64) hx l⟩
  rw [e]
  exact u64_nat l (by rw [Int.natCast_mul, Int.mul_comm])

end Go.Proofs.YtkfglbmhpdcfpaaDoor

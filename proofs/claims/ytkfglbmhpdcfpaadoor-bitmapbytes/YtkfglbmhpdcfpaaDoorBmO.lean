/-
  Which bytes are a map's: plain facts. No program in sight.
-/
import Derived.Test.YtkfglbmhpdcfpaaDoorBmB
namespace Go.Proofs.YtkfglbmhpdcfpaaDoor
open Go.RowKit
set_option linter.unusedVariables false
set_option linter.unusedSimpArgs false

/-- Byte i of a string. -/
def sb (s : ByteArray) (i : Nat) : Nat := (s.data.toList.getD i 0).toNat

theorem sb_get (s : ByteArray) (i : Nat) (h : i < s.size) : s[i].toNat = sb s i := by
  unfold sb
  have h' : i < s.data.toList.length := by rw [Array.length_toList]; exact h
  rw [List.getD_eq_getElem?_getD, List.getElem?_eq_getElem h']
  rfl

theorem sb_lt (s : ByteArray) (i : Nat) : sb s i < 256 := by
  unfold sb
  exact UInt8.toNat_lt _

theorem sb_far (s : ByteArray) (i : Nat) (h : s.size ≤ i) : sb s i = 0 := by
  unfold sb
  have h' : s.data.toList.length ≤ i := by rw [Array.length_toList]; exact h
  rw [List.getD_eq_getElem?_getD, List.getElem?_eq_none h']
  rfl

/-- The size that bytes tell. -/
def toldV (s : ByteArray) : Nat → Nat
  | 0 => 0
  | k + 1 => toldV s k * 256 + sb s k

def toldT (s : ByteArray) : Nat := toldV s 4

theorem toldV_lt (s : ByteArray) : ∀ k, toldV s k < 256 ^ k
  | 0 => by simp [toldV]
  | k + 1 => by
    have h := toldV_lt s k
    have b := sb_lt s k
    rw [Nat.pow_succ]
    simp only [toldV]
    omega

theorem toldT_eq (s : ByteArray) : toldT s = sb s 0 * 16777216 + sb s 1 * 65536 + sb s 2 * 256 + sb s 3 := by
  unfold toldT
  simp only [toldV]
  omega

/-- Bit p that bytes tell. -/
def bitS (s : ByteArray) (p : Nat) : Bool := (sb s (4 + p / 8)).testBit (p % 8)

theorem byte_bits (s : ByteArray) (j : Nat) : bsum (bitS s) (8 * j) 8 = sb s (4 + j) := by
  apply Nat.eq_of_testBit_eq
  intro q
  rw [bsum_bit]
  by_cases h : q < 8
  · simp only [h, decide_true, Bool.true_and]
    unfold bitS
    rw [show (8 * j + q) / 8 = j by omega, show (8 * j + q) % 8 = q by omega]
  · have l : sb s (4 + j) < 2 ^ q := Nat.lt_of_lt_of_le (sb_lt s (4 + j)) (show 256 ≤ 2 ^ q from Nat.pow_le_pow_right (n := 2) (by decide) (show 8 ≤ q by omega))
    rw [Nat.testBit_lt_two_pow l]
    simp [h]

/-- These bytes are a map's. -/
def okS (s : ByteArray) : Prop := toldT s ≤ 65536 ∧ s.size = bytesN (toldT s) ∧ ∀ p, toldT s ≤ p → bitS s p = false

def cutF (s : ByteArray) : Nat → Bool := fun p => decide (p < toldT s) && bitS s p

theorem list_bytes (s : ByteArray) : s.data.toList = (List.range s.size).map (fun i => UInt8.ofNat (sb s i)) := by
  apply List.ext_getElem?
  intro i
  by_cases h : i < s.size
  · have h' : i < s.data.toList.length := by rw [Array.length_toList]; exact h
    rw [List.getElem?_eq_getElem h']
    simp only [List.getElem?_map, List.getElem?_range h, Option.map_some]
    congr 1
    unfold sb
    rw [List.getD_eq_getElem?_getD, List.getElem?_eq_getElem h']
    simp
  · have h' : s.data.toList.length ≤ i := by rw [Array.length_toList]; exact Nat.le_of_not_lt h
    rw [List.getElem?_eq_none h', List.getElem?_eq_none (by simp; omega)]

theorem bytesS_list (n : Nat) (f : Nat → Bool) : (bytesS n f).data.toList = (List.range (bytesN n)).map (fun i => UInt8.ofNat (byteAt n f i)) := by
  unfold bytesS
  rw [strOfNums_data, List.map_map]
  rfl

theorem byteAt_lt (n : Nat) (f : Nat → Bool) (i : Nat) : byteAt n f i < 256 := by
  unfold byteAt
  split
  · exact Nat.mod_lt _ (by decide)
  · exact bsum_lt f _ 8

theorem bytes_same {n : Nat} {f : Nat → Bool} {s : ByteArray} (hs : s.size = bytesN n) : bytesS n f = s ↔ ∀ i, i < bytesN n → byteAt n f i = sb s i := by
  constructor
  · intro h i hi
    have e := congrArg (fun x : ByteArray => x.data.toList[i]?) h
    simp only [bytesS_list, list_bytes s, hs] at e
    simp only [List.getElem?_map, List.getElem?_range hi, Option.map_some] at e
    have e2 := congrArg UInt8.toNat (Option.some.inj e)
    simp only [UInt8.toNat_ofNat'] at e2
    have l1 := byteAt_lt n f i
    have l2 := sb_lt s i
    omega
  · intro h
    have e : (bytesS n f).data.toList = s.data.toList := by
      rw [bytesS_list, list_bytes s, hs]
      exact List.map_congr_left (fun i hi => by rw [h i (List.mem_range.1 hi)])
    cases hb : bytesS n f with
    | mk d =>
      cases s with
      | mk d' =>
        rw [hb] at e
        congr 1
        exact Array.ext' e

/-- The first four bytes are the size's. -/
theorem told_byte (s : ByteArray) (f : Nat → Bool) {i : Nat} (hi : i < 4) : byteAt (toldT s) f i = sb s i := by
  have h0 := sb_lt s 0
  have h1 := sb_lt s 1
  have h2 := sb_lt s 2
  have h3 := sb_lt s 3
  unfold byteAt
  rw [if_pos hi, toldT_eq]
  rcases (show i = 0 ∨ i = 1 ∨ i = 2 ∨ i = 3 by omega) with rfl | rfl | rfl | rfl
  all_goals simp
  all_goals omega

theorem bytes_cut {s : ByteArray} (hs : s.size = bytesN (toldT s)) : bytesS (toldT s) (cutF s) = s ↔ ∀ p, toldT s ≤ p → bitS s p = false := by
  rw [bytes_same hs]
  constructor
  · intro h p hp
    by_cases hf : 4 + p / 8 < bytesN (toldT s)
    · have e := h (4 + p / 8) hf
      unfold byteAt at e
      rw [if_neg (by omega), show 4 + p / 8 - 4 = p / 8 by omega] at e
      have e2 := congrArg (fun x => x.testBit (p % 8)) e
      simp only [bsum_bit] at e2
      rw [decide_eq_true (Nat.mod_lt p (by decide)), Bool.true_and, show 8 * (p / 8) + p % 8 = p by omega] at e2
      unfold bitS
      rw [← e2]
      unfold cutF
      rw [decide_eq_false (by omega), Bool.false_and]
    · unfold bitS
      rw [sb_far s _ (by omega)]
      simp
  · intro h i hi
    have hc : ∀ p, cutF s p = bitS s p := fun p => by
      unfold cutF
      by_cases hp : p < toldT s
      · rw [decide_eq_true hp, Bool.true_and]
      · rw [decide_eq_false hp, Bool.false_and, h p (by omega)]
    by_cases h4 : i < 4
    · exact told_byte s _ h4
    · unfold byteAt
      rw [if_neg h4, bsum_congr (fun j _ => hc _), byte_bits, show 4 + (i - 4) = i by omega]

theorem cut_ok {s : ByteArray} (h : okS s) : ∀ p, cutF s p = bitS s p := fun p => by
  unfold cutF
  by_cases hp : p < toldT s
  · rw [decide_eq_true hp, Bool.true_and]
  · rw [decide_eq_false hp, Bool.false_and, h.2.2 p (by omega)]

theorem bytes_back {s : ByteArray} (h : okS s) : bytesS (toldT s) (bitS s) = s := by
  have e := (bytes_cut h.2.1).2 h.2.2
  rw [show cutF s = bitS s from funext (cut_ok h)] at e
  exact e

/-- Which bits are ones behind the size. -/
theorem over_word {s : ByteArray} (hs : s.size = bytesN (toldT s)) (hT : toldT s % 64 ≠ 0) (x : Nat) (hx : ∀ j, j < 64 → x.testBit j = bitS s (64 * (toldT s / 64) + j)) (hxl : x < 18446744073709551616) : (x / 2 ^ (toldT s % 64) ≠ 0) ↔ ¬ ∀ p, toldT s ≤ p → bitS s p = false := by
  have key : (x / 2 ^ (toldT s % 64) = 0) ↔ ∀ p, toldT s ≤ p → bitS s p = false := by
    constructor
    · intro h p hp
      by_cases hq : p < 64 * (toldT s / 64) + 64
      · have e := hx (p - 64 * (toldT s / 64)) (by omega)
        rw [show 64 * (toldT s / 64) + (p - 64 * (toldT s / 64)) = p by omega] at e
        rw [← e]
        have e2 := congrArg (fun y => y.testBit (p - toldT s)) h
        simp only [Nat.testBit_div_two_pow, Nat.zero_testBit] at e2
        rw [show p - toldT s + toldT s % 64 = p - 64 * (toldT s / 64) by omega] at e2
        exact e2
      · unfold bitS
        rw [sb_far s _ (by rw [hs]; unfold bytesN; omega)]
        simp
    · intro h
      apply Nat.eq_of_testBit_eq
      intro i
      rw [Nat.testBit_div_two_pow, Nat.zero_testBit]
      by_cases hi : i + toldT s % 64 < 64
      · rw [hx _ hi]
        exact h _ (by omega)
      · exact Nat.testBit_lt_two_pow (Nat.lt_of_lt_of_le hxl (Nat.pow_le_pow_right (n := 2) (by decide) (show 64 ≤ i + toldT s % 64 by omega)))
  rw [ne_eq, key]

end Go.Proofs.YtkfglbmhpdcfpaaDoor

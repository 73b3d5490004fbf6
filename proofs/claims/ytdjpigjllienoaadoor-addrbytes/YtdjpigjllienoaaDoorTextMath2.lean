/-
  Texts of digits and their numbers, there and back, plainly.
-/
import Derived.Test.YtdjpigjllienoaaDoorTextMath
namespace Go.Proofs.YtdjpigjllienoaaDoor
set_option linter.unusedVariables false

theorem lowD_get (a : Nat) : ∀ (j i : Nat), i < j → (lowD a j).getD i 0 = ((48 + a / 10 ^ (j - 1 - i) % 10 : Nat) : Int)
  | 0, i, h => absurd h (by omega)
  | j + 1, 0, h => by simp only [lowD, List.getD_cons_zero, Nat.add_sub_cancel, Nat.sub_zero]
  | j + 1, i + 1, h => by
    simp only [lowD, List.getD_cons_succ]
    rw [lowD_get a j i (by omega), show j + 1 - 1 - (i + 1) = j - 1 - i by omega]

theorem text_size (a j : Nat) : (strOfNums (lowD a j)).size = j := by rw [strOfNums_size, lowD_length]

theorem text_byte (a j i : Nat) (h : i < j) : byteN (strOfNums (lowD a j)) i = 48 + a / 10 ^ (j - 1 - i) % 10 := by
  have g := lowD_get a j i h
  have hl : i < (lowD a j).length := by rw [lowD_length]; exact h
  unfold byteN
  rw [strOfNums_data, List.getD_eq_getElem?_getD, List.getElem?_map]
  rw [List.getD_eq_getElem?_getD] at g
  rw [List.getElem?_eq_getElem hl] at g ⊢
  simp only [Option.getD_some, Option.map_some] at g ⊢
  rw [g, Int.toNat_natCast, UInt8.toNat_ofNat']
  have := Nat.mod_lt (a / 10 ^ (j - 1 - i)) (by decide : 0 < 10)
  omega

theorem text_printed {a j : Nat} (d : IsDec a j) : Printed (strOfNums (lowD a j)) := by
  have dp := d.pos
  refine ⟨by rw [text_size]; omega, ?_, ?_⟩
  · rintro ⟨h1, h2⟩
    rw [text_size] at h1
    rw [text_byte a j 0 (by omega), Nat.sub_zero] at h2
    have g := d.ge h1
    have l := d.lt
    have p : 0 < 10 ^ (j - 1) := Nat.pow_pos (by decide)
    have e : 10 ^ j = 10 ^ (j - 1) * 10 := by rw [← Nat.pow_succ]; congr 1; omega
    have lt : a / 10 ^ (j - 1) < 10 := by rw [Nat.div_lt_iff_lt_mul p]; rw [e] at l; omega
    have ge : 1 ≤ a / 10 ^ (j - 1) := (Nat.le_div_iff_mul_le p).2 (by omega)
    omega
  · intro i hi
    rw [text_size] at hi
    rw [text_byte a j i hi]
    have := Nat.mod_lt (a / 10 ^ (j - 1 - i)) (by decide : 0 < 10)
    omega

theorem text_val {a j : Nat} (l : a < 10 ^ j) : ∀ k, k ≤ j → valN (strOfNums (lowD a j)) k = a / 10 ^ (j - k)
  | 0, _ => by rw [Nat.sub_zero, Nat.div_eq_of_lt l]; rfl
  | k + 1, h => by
    simp only [valN]
    rw [text_val l k (by omega), text_byte a j k (by omega), show j - 1 - k = j - (k + 1) by omega, show j - k = j - (k + 1) + 1 by omega, Nat.pow_succ, ← Nat.div_div_eq_div_mul]
    omega

theorem text_valN {a j : Nat} (l : a < 10 ^ j) : valN (strOfNums (lowD a j)) (strOfNums (lowD a j)).size = a := by
  rw [text_size, text_val l j (Nat.le_refl _), Nat.sub_self]; simp

theorem valN_lt {s : ByteArray} (h : ∀ i, i < s.size → 48 ≤ byteN s i ∧ byteN s i ≤ 57) : ∀ k, k ≤ s.size → valN s k < 10 ^ k
  | 0, _ => by simp [valN]
  | k + 1, hk => by
    have := valN_lt h k (by omega)
    have := h k (by omega)
    simp only [valN]
    rw [Nat.pow_succ]; omega

theorem valN_div {s : ByteArray} (h : ∀ i, i < s.size → 48 ≤ byteN s i ∧ byteN s i ≤ 57) (k : Nat) : ∀ m, k + m ≤ s.size → valN s (k + m) / 10 ^ m = valN s k
  | 0, _ => by simp
  | m + 1, hm => by
    have ih := valN_div h k m (by omega)
    have b := h (k + m) (by omega)
    rw [Nat.pow_succ, Nat.mul_comm, ← Nat.div_div_eq_div_mul, ← ih]
    congr 1
    show (10 * valN s (k + m) + (byteN s (k + m) - 48)) / 10 = _
    omega

theorem printed_dec {s : ByteArray} (p : Printed s) : IsDec (valN s s.size) s.size := by
  refine ⟨p.1, valN_lt p.2.2 _ (Nat.le_refl _), fun h => ?_⟩
  have d := valN_div p.2.2 1 (s.size - 1) (by omega)
  rw [show 1 + (s.size - 1) = s.size by omega] at d
  have b := p.2.2 0 (by omega)
  have n0 : byteN s 0 ≠ 48 := fun c => p.2.1 ⟨h, c⟩
  have v1 : valN s 1 = byteN s 0 - 48 := by simp [valN]
  have p1 : 0 < 10 ^ (s.size - 1) := Nat.pow_pos (by decide)
  have := (Nat.le_div_iff_mul_le p1).1 (show 1 ≤ valN s s.size / 10 ^ (s.size - 1) by omega)
  omega

theorem bytes_ext {s t : ByteArray} (hs : s.size = t.size) (h : ∀ i, i < s.size → byteN s i = byteN t i) : s = t := by
  apply ByteArray.ext
  apply Array.ext hs
  intro i h1 h2
  have e := h i h1
  rw [← byteN_get s i h1, ← byteN_get t i h2] at e
  exact UInt8.toNat_inj.1 e

theorem printed_back {s : ByteArray} (p : Printed s) : strOfNums (lowD (valN s s.size) s.size) = s := by
  refine bytes_ext (text_size _ _) fun i hi => ?_
  rw [text_size] at hi
  rw [text_byte _ _ _ hi]
  have d := valN_div p.2.2 (i + 1) (s.size - 1 - i) (by omega)
  rw [show i + 1 + (s.size - 1 - i) = s.size by omega] at d
  rw [d]
  have b := p.2.2 i hi
  simp only [valN]
  omega

/-- Two texts of the same number are the same. -/
theorem text_uniq {a j k : Nat} (x : IsDec a j) (y : IsDec a k) : strOfNums (lowD a j) = strOfNums (lowD a k) := by rw [x.uniq y]

end Go.Proofs.YtdjpigjllienoaaDoor

/-
  Texts RfZ of the proof.
-/
import Derived.Test.YtipjmmhlfmahbaaGreatDoorP36
import Derived.Test.YtipjmmhlfmahbaaGreatDoorP37
import Derived.Test.YtipjmmhlfmahbaaGreatDoorP33
import Derived.Test.YtipjmmhlfmahbaaGreatDoorP13

namespace Go.Proofs.YtipjmmhlfmahbaaGreatDoor
open Go.ChangeShapes Go.WideShapes Go.ChangeAt Go.RowKit
set_option linter.unusedVariables false
set_option linter.unusedSimpArgs false

/-- What Parse leaves. -/
def RZRet (l : List UInt8) (w : World) (e : Ending) (W : World) : Prop := ∃ v h lo b c, e = .returned (.tuple #[pv v h lo b, .int .i64 c]) ∧ Hid (PParseIs l v h lo b c) ∧ Below w.heap.size w W

theorem c47_int (c : UInt8) : ((c.toNat : Int) == 47) = decide (c = 47) := by
  rw [Bool.eq_iff_iff, beq_iff_eq, decide_eq_true_iff]
  exact ⟨fun e => UInt8.toNat_inj.1 (by have : (47 : UInt8).toNat = 47 := rfl; omega), fun e => by rw [e]; rfl⟩

/-- Where the one slash is, of the first k bytes. -/
def SlashAt (s : ByteArray) (k : Nat) : Option Nat → Prop
  | none => (47 : UInt8) ∉ seg s 0 k
  | some j => j < k ∧ bt s j = 47 ∧ (47 : UInt8) ∉ seg s 0 j

theorem slash_none {s : ByteArray} (h : SlashAt s s.size none) : parsePF s.data.toList = none := by
  have h' : (47 : UInt8) ∉ s.data.toList := by
    have : (47 : UInt8) ∉ seg s 0 s.size := h
    rwa [seg_all, List.drop_zero] at this
  unfold parsePF
  rw [cut1_no 47 _ h']
  have e : decV [] = none := by rw [decV_dig]; rfl
  simp only [e]
  split <;> rfl

theorem slash_cut {s : ByteArray} {j k : Nat} (h : SlashAt s k (some j)) (hk : k ≤ s.size) : cutG [47] s.data.toList = (seg s 0 j, s.data.toList.drop (j + 1), true) := by
  obtain ⟨h1, h2, h3⟩ := h
  have c := seg_cut s 0 j (Nat.zero_le _) (by omega)
  rw [List.drop_zero, h2] at c
  have q := cut1_at 47 (s.data.toList.drop (j + 1)) _ h3
  rw [← c] at q
  exact q

theorem slash_two {s : ByteArray} {j k : Nat} (h : SlashAt s k (some j)) (hk : k < s.size) (b : bt s k = 47) : parsePF s.data.toList = none := by
  have c := slash_cut h (Nat.le_of_lt hk)
  have m : (47 : UInt8) ∈ s.data.toList.drop (j + 1) := by
    have q := seg_cut s (j + 1) k h.1 hk
    rw [q, b]
    simp
  unfold parsePF
  rw [c]
  have e : decV (s.data.toList.drop (j + 1)) = none := by rw [decV_dig, digR_no m]
  simp only [e]
  split <;> rfl

theorem slash_next {s : ByteArray} {k : Nat} {p : Option Nat} (h : SlashAt s k p) (hk : k < s.size) (b : bt s k ≠ 47) : SlashAt s (k + 1) p := by
  cases p with
  | none =>
    show (47 : UInt8) ∉ seg s 0 (k + 1)
    rw [seg_step s 0 k (Nat.zero_le _) hk]
    simp only [List.mem_append, List.mem_singleton, not_or]
    exact ⟨h, fun e => b e.symm⟩
  | some j => exact ⟨Nat.lt_succ_of_lt h.1, h.2.1, h.2.2⟩

theorem slash_here {s : ByteArray} {k : Nat} (h : SlashAt s k none) (b : bt s k = 47) : SlashAt s (k + 1) (some k) := ⟨Nat.lt_succ_self _, b, h⟩

/-- Behind the slash. -/
theorem pf_text {l t w : List UInt8} (h : cutG [47] l = (t, w, true)) (e : parseF t = none) : parsePF l = none := by
  unfold parsePF
  rw [h]
  simp only [e]

theorem pf_dig {l t w : List UInt8} (h : cutG [47] l = (t, w, true)) (e : digR w = none) : parsePF l = none := by
  have d : decV w = none := by rw [decV_dig, e]
  unfold parsePF
  rw [h]
  simp only [d]
  split <;> rfl

theorem pf_bad {l t w : List UInt8} {v : Bool} {a n : Nat} (h : cutG [47] l = (t, w, true)) (e : parseF t = some (v, a)) (d : digR w = some n) (o : okP v a (n : Int) = false) : parsePF l = none := by
  unfold parsePF
  rw [h]
  simp only [e, decV_dig, d]
  by_cases q : n < 256
  · rw [if_pos q]
    simp only [o]
    rfl
  · rw [if_neg q]

theorem pf_ok {l t w : List UInt8} {v : Bool} {a n : Nat} (h : cutG [47] l = (t, w, true)) (e : parseF t = some (v, a)) (d : digR w = some n) (n256 : n < 256) (o : okP v a (n : Int) = true) : parsePF l = some (v, a, n) := by
  unfold parsePF
  rw [h]
  simp only [e, decV_dig, d]
  rw [if_pos n256]
  simp only [o, if_true]
end Go.Proofs.YtipjmmhlfmahbaaGreatDoor

/-
  Texts CutM, RfM, RfX of the proof.
-/
import Derived.Lib.IndexMore
import Derived.Test.YtipjmmhlfmahbaaGreatDoorP8

namespace Go.Proofs.YtipjmmhlfmahbaaGreatDoor
open Go.ChangeShapes Go.WideShapes Go.ChangeAt Go.RowKit
set_option linter.unusedVariables false
set_option linter.unusedSimpArgs false

/-- A text cut at the first place where sep stands. -/
def cutG (sep : List UInt8) : List UInt8 → List UInt8 × List UInt8 × Bool
  | [] => ([], [], false)
  | b :: l => if sep.isPrefixOf (b :: l) then ([], (b :: l).drop sep.length, true) else (b :: (cutG sep l).1, (cutG sep l).2.1, (cutG sep l).2.2)

theorem cutG_eq (sep : List UInt8) (hs : sep ≠ []) : ∀ l, Lib.cut l sep = cutG sep l
  | [] => by
    have : Lib.index [] sep = -1 := by
      unfold Lib.index
      cases sep with
      | nil => exact absurd rfl hs
      | cons _ _ => rfl
    unfold Lib.cut cutG
    rw [this]; rfl
  | b :: l => by
    have ih := cutG_eq sep hs l
    have g := Lib.index_ge l sep
    unfold cutG
    by_cases hp : sep.isPrefixOf (b :: l) = true
    · have : Lib.index (b :: l) sep = 0 := by rw [Lib.index, if_pos hp]
      rw [if_pos hp]
      unfold Lib.cut
      rw [this]
      simp
    · rw [if_neg hp, ← ih]
      by_cases hi : Lib.index l sep = -1
      · have : Lib.index (b :: l) sep = -1 := by rw [Lib.index, if_neg hp, if_pos (by simp [hi])]
        unfold Lib.cut
        rw [this, hi]
        simp
      · have e : Lib.index (b :: l) sep = Lib.index l sep + 1 := by rw [Lib.index, if_neg hp, if_neg (by simp [hi])]
        unfold Lib.cut
        rw [e, if_pos (by omega), if_pos (by omega)]
        have h0 : 0 ≤ Lib.index l sep := by omega
        obtain ⟨k, hk⟩ := Int.eq_ofNat_of_zero_le h0
        rw [hk]
        have e2 : ((k : Int) + 1).toNat = k + 1 := by omega
        rw [e2, Int.toNat_natCast]
        simp [Nat.add_right_comm]

theorem cutG_len (sep : List UInt8) (hs : sep ≠ []) : ∀ l, (cutG sep l).1.length ≤ l.length ∧ (cutG sep l).2.1.length ≤ l.length ∧ ((cutG sep l).2.2 = true → (cutG sep l).2.1.length < l.length)
  | [] => by simp [cutG]
  | b :: l => by
    have ih := cutG_len sep hs l
    unfold cutG
    split
    · have : 1 ≤ sep.length := by
        cases sep with
        | nil => exact absurd rfl hs
        | cons _ _ => simp
      refine ⟨by simp, ?_, fun _ => ?_⟩ <;> (simp only [List.length_drop, List.length_cons]; omega)
    · simp only [List.length_cons]
      exact ⟨by omega, by omega, fun h => by have := ih.2.2 h; omega⟩

/-- strings.Cut, as the plain function says. -/
theorem cut_c (s : ByteArray) (sep : ByteArray) (hsep : sep.data.toList ≠ []) (hs : s.size ≤ 1000000) (w : World) (hL : LW w) :
    Calls Tryz.prog 11 #[.string s, .string sep] w fun e w' => e = .returned (.tuple #[.string ⟨(cutG sep.data.toList s.data.toList).1.toArray⟩, .string ⟨(cutG sep.data.toList s.data.toList).2.1.toArray⟩, .bool (cutG sep.data.toList s.data.toList).2.2]) ∧ Below w.heap.size w w' := by
  obtain ⟨m, hm⟩ := hL.ml
  refine (Tryz.strings_Cut s sep m w (by omega) hm).mono ?_
  rintro e w' ⟨rfl, n, rfl⟩
  rw [cutG_eq _ hsep]
  exact ⟨rfl, below_drewN (Below.refl _ _) _⟩

def printedDec (s : ByteArray) : Decidable (Printed s) := by unfold Printed; exact inferInstance

/-- The number of a decimal text below 256. -/
def decV (l : List UInt8) : Option Nat := @ite (Option Nat) (Printed ⟨l.toArray⟩ ∧ valN ⟨l.toArray⟩ l.length < 256) (@instDecidableAnd _ _ (printedDec _) (Nat.decLt _ _)) (some (valN ⟨l.toArray⟩ l.length)) none

/-- Numbers with a dot between, k of them behind the first, behind the number n. -/
def shortF : Nat → Nat → List UInt8 → Option Nat
  | 0, n, l => if (cutG [46] l).2.2 = true then none else match decV (cutG [46] l).1 with
    | some v => some (n * 256 + v)
    | none => none
  | k + 1, n, l => if (cutG [46] l).2.2 = true then match decV (cutG [46] l).1 with
    | some v => shortF k (n * 256 + v) (cutG [46] l).2.1
    | none => none
    else none

/-- What is still to be read when k of the four are. -/
def shR (k n : Nat) (l : List UInt8) : Option Nat := if k < 4 then shortF (3 - k) n l else some n

theorem shR_step {k n v : Nat} {l : List UInt8} (hk : k < 4) (hd : decV (cutG [46] l).1 = some v) (hm : (cutG [46] l).2.2 = decide (k ≠ 3)) : shR k n l = shR (k + 1) (n * 256 + v) (cutG [46] l).2.1 := by
  have : k = 0 ∨ k = 1 ∨ k = 2 ∨ k = 3 := by omega
  rcases this with rfl | rfl | rfl | rfl <;> simp [shR, shortF, hd, hm]

theorem shR_none {k n : Nat} {l : List UInt8} (hk : k < 4) (h : decV (cutG [46] l).1 = none ∨ (cutG [46] l).2.2 = decide (k = 3)) : shR k n l = none := by
  have : k = 0 ∨ k = 1 ∨ k = 2 ∨ k = 3 := by omega
  rcases h with h | h
  · rcases this with rfl | rfl | rfl | rfl <;> simp [shR, shortF, h]
  · rcases this with rfl | rfl | rfl | rfl <;> simp [shR, shortF, h]

theorem valN_ge (s : ByteArray) (hp : Printed s) : ∀ k, 1 ≤ k → k ≤ s.size → 1 < s.size → 10 ^ (k - 1) ≤ valN s k
  | 0, h, _, _ => by omega
  | 1, _, h1, h2 => by
    have b := hp.2.2 0 (by omega)
    have n0 : byteN s 0 ≠ 48 := fun c => hp.2.1 ⟨h2, c⟩
    simp [valN]; omega
  | k + 2, _, h1, h2 => by
    have ih := valN_ge s hp (k + 1) (by omega) (by omega) h2
    rw [show k + 2 - 1 = (k + 1 - 1) + 1 by omega, Nat.pow_succ]
    rw [show valN s (k + 2) = 10 * valN s (k + 1) + (byteN s (k + 1) - 48) from rfl]
    omega
end Go.Proofs.YtipjmmhlfmahbaaGreatDoor

namespace Go.Proofs.YtipjmmhlfmahbaaGreatDoor
open Go.ChangeShapes Go.WideShapes Go.ChangeAt Go.RowKit
set_option linter.unusedVariables false
set_option linter.unusedSimpArgs false

/-- The number that digits go on to, none ahead of the first one. -/
def decS : List UInt8 → Option Nat → Option Nat
  | [], n => n
  | c :: r, n => if c.toNat < 48 ∨ 57 < c.toNat ∨ n = some 0 then none else if 255 < 10 * n.getD 0 + (c.toNat - 48) then none else decS r (some (10 * n.getD 0 + (c.toNat - 48)))

theorem byteN_mk (l : List UInt8) (i : Nat) : byteN ⟨l.toArray⟩ i = (l.getD i 0).toNat := by
  unfold byteN
  simp

theorem byteN_pre (P r : List UInt8) {i : Nat} (h : i < P.length) : byteN ⟨(P ++ r).toArray⟩ i = byteN ⟨P.toArray⟩ i := by
  rw [byteN_mk, byteN_mk, List.getD_eq_getElem?_getD, List.getElem?_append_left h, ← List.getD_eq_getElem?_getD]

theorem byteN_mid (P : List UInt8) (c : UInt8) (r : List UInt8) : byteN ⟨(P ++ c :: r).toArray⟩ P.length = c.toNat := by
  rw [byteN_mk, List.getD_eq_getElem?_getD, List.getElem?_append_right (Nat.le_refl _), Nat.sub_self]
  rfl

theorem valN_pre (P r : List UInt8) : ∀ k, k ≤ P.length → valN ⟨(P ++ r).toArray⟩ k = valN ⟨P.toArray⟩ k
  | 0, _ => rfl
  | k + 1, h => by
    simp only [valN]
    rw [valN_pre P r k (by omega), byteN_pre P r (by omega)]

theorem size_mk (l : List UInt8) : (⟨l.toArray⟩ : ByteArray).size = l.length := by
  show l.toArray.size = _
  simp

theorem decV_some {l : List UInt8} (p : Printed ⟨l.toArray⟩) (h : valN ⟨l.toArray⟩ l.length < 256) : decV l = some (valN ⟨l.toArray⟩ l.length) := by
  unfold decV
  exact if_pos ⟨p, h⟩

theorem decV_none {l : List UInt8} (h : ¬ (Printed ⟨l.toArray⟩ ∧ valN ⟨l.toArray⟩ l.length < 256)) : decV l = none := by
  unfold decV
  exact if_neg h

theorem decS_go : ∀ (r P : List UInt8) (m : Nat), Printed ⟨P.toArray⟩ → valN ⟨P.toArray⟩ P.length = m → m < 256 → decS r (some m) = decV (P ++ r)
  | [], P, m, hp, hv, hm => by
    rw [List.append_nil, decV_some hp (by omega), hv]
    rfl
  | c :: r, P, m, hp, hv, hm => by
    have hs : P.length = (⟨P.toArray⟩ : ByteArray).size := (size_mk P).symm
    have hs2 : (⟨(P ++ c :: r).toArray⟩ : ByteArray).size = P.length + 1 + r.length := by rw [size_mk]; simp; omega
    have h0 : 0 < P.length := by rw [hs]; exact hp.1
    have mid := byteN_mid P c r
    have v1 : valN ⟨(P ++ c :: r).toArray⟩ (P.length + 1) = 10 * m + (c.toNat - 48) := by
      simp only [valN]
      rw [valN_pre P _ _ (Nat.le_refl _), hv, mid]
    unfold decS
    by_cases d1 : c.toNat < 48 ∨ 57 < c.toNat ∨ some m = some 0
    · rw [if_pos d1]
      refine (decV_none ?_).symm
      rintro ⟨q, _⟩
      rcases d1 with d | d | d
      · have := (q.2.2 P.length (by rw [hs2]; omega)).1
        omega
      · have := (q.2.2 P.length (by rw [hs2]; omega)).2
        omega
      · have m0 : m = 0 := Option.some.inj d
        have l1 : P.length = 1 := by
          apply Classical.byContradiction
          intro cc
          have g := valN_ge ⟨P.toArray⟩ hp P.length (by omega) (by omega) (by omega)
          have := Nat.pow_pos (n := P.length - 1) (show 0 < 10 by decide)
          omega
        have b0 : byteN ⟨P.toArray⟩ 0 = 48 := by
          rw [l1] at hv
          simp only [valN] at hv
          have := (hp.2.2 0 (by omega)).1
          omega
        refine q.2.1 ⟨by rw [hs2]; omega, ?_⟩
        rw [byteN_pre P _ h0, b0]
    · rw [if_neg d1]
      have d2 : ¬ c.toNat < 48 ∧ ¬ 57 < c.toNat ∧ ¬ m = 0 := ⟨fun e => d1 (Or.inl e), fun e => d1 (Or.inr (Or.inl e)), fun e => d1 (Or.inr (Or.inr (by rw [e])))⟩
      show (if 255 < 10 * m + (c.toNat - 48) then none else decS r (some (10 * m + (c.toNat - 48)))) = _
      by_cases d3 : 255 < 10 * m + (c.toNat - 48)
      · rw [if_pos d3]
        refine (decV_none ?_).symm
        rintro ⟨_, q⟩
        have := valN_mono ⟨(P ++ c :: r).toArray⟩ (show P.length + 1 ≤ (P ++ c :: r).length by simp)
        omega
      · rw [if_neg d3]
        have e : P ++ c :: r = (P ++ [c]) ++ r := by simp
        have l2 : (P ++ [c]).length = P.length + 1 := by simp
        rw [e]
        refine decS_go r (P ++ [c]) _ ⟨?_, ?_, ?_⟩ ?_ (by omega)
        · rw [size_mk]; omega
        · rintro ⟨q1, q2⟩
          rw [byteN_pre P _ h0] at q2
          by_cases l1 : P.length = 1
          · rw [l1] at hv
            simp only [valN] at hv
            omega
          · exact hp.2.1 ⟨by omega, q2⟩
        · intro i hi
          rw [size_mk, l2] at hi
          by_cases hi2 : i < P.length
          · rw [byteN_pre P _ hi2]
            exact hp.2.2 i (by omega)
          · obtain rfl : i = P.length := by omega
            rw [byteN_mid P c []]
            omega
        · rw [l2]
          simp only [valN]
          rw [valN_pre P _ _ (Nat.le_refl _), hv, byteN_mid P c []]

theorem decS_is : ∀ r : List UInt8, decS r none = decV r
  | [] => by
    refine (decV_none ?_).symm
    rintro ⟨q, _⟩
    have := q.1
    rw [size_mk] at this
    simp at this
  | c :: r => by
    have mid := byteN_mid [] c r
    simp only [List.nil_append, List.length_nil] at mid
    have hs2 : (⟨(c :: r).toArray⟩ : ByteArray).size = 1 + r.length := by rw [size_mk]; simp; omega
    unfold decS
    by_cases d1 : c.toNat < 48 ∨ 57 < c.toNat ∨ (none : Option Nat) = some 0
    · rw [if_pos d1]
      refine (decV_none ?_).symm
      rintro ⟨q, _⟩
      rcases d1 with d | d | d
      · have := (q.2.2 0 (by rw [hs2]; omega)).1
        omega
      · have := (q.2.2 0 (by rw [hs2]; omega)).2
        omega
      · cases d
    · rw [if_neg d1]
      have d2 : ¬ c.toNat < 48 ∧ ¬ 57 < c.toNat := ⟨fun e => d1 (Or.inl e), fun e => d1 (Or.inr (Or.inl e))⟩
      show (if 255 < 10 * 0 + (c.toNat - 48) then none else decS r (some (10 * 0 + (c.toNat - 48)))) = _
      rw [if_neg (by omega)]
      have b0 : byteN ⟨[c].toArray⟩ 0 = c.toNat := byteN_mid [] c []
      have := decS_go r [c] (10 * 0 + (c.toNat - 48)) ⟨by rw [size_mk]; exact Nat.one_pos, ?_, ?_⟩ ?_ (by omega)
      · exact this
      · rintro ⟨q, _⟩
        rw [size_mk] at q
        simp at q
      · intro i hi
        rw [size_mk] at hi
        obtain rfl : i = 0 := by simp at hi; exact hi
        rw [b0]
        omega
      · show valN _ (0 + 1) = _
        simp only [valN]
        rw [b0]

/-- Four decimal numbers. -/
def fourS : List UInt8 → Option Nat → List Nat → Option (List Nat)
  | [], none, out => none
  | [], some v, out => if out.length = 3 then some (out ++ [v]) else none
  | c :: r, n, out => if c = 46 then (match n with | none => none | some v => if out.length = 4 then none else fourS r none (out ++ [v]))
    else if c.toNat < 48 ∨ 57 < c.toNat ∨ n = some 0 then none else if 255 < 10 * n.getD 0 + (c.toNat - 48) then none else fourS r (some (10 * n.getD 0 + (c.toNat - 48))) out

theorem fourS_cons (c : UInt8) (r : List UInt8) (n : Option Nat) (out : List Nat) : fourS (c :: r) n out = if c = 46 then (match n with | none => none | some v => if out.length = 4 then none else fourS r none (out ++ [v]))
    else if c.toNat < 48 ∨ 57 < c.toNat ∨ n = some 0 then none else if 255 < 10 * n.getD 0 + (c.toNat - 48) then none else fourS r (some (10 * n.getD 0 + (c.toNat - 48))) out := by
  cases n <;> rfl

theorem fourS_no : ∀ (X : List UInt8) (n : Option Nat) (out : List Nat), (46 : UInt8) ∉ X → fourS X n out = match decS X n with | none => none | some v => if out.length = 3 then some (out ++ [v]) else none
  | [], none, out, _ => rfl
  | [], some v, out, _ => rfl
  | c :: r, n, out, h => by
    have hc : c ≠ 46 := fun e => h (by simp [e])
    have hr : (46 : UInt8) ∉ r := fun e => h (by simp [e])
    rw [fourS_cons]
    unfold decS
    rw [if_neg hc]
    split
    · rfl
    · split
      · rfl
      · exact fourS_no r _ out hr

theorem fourS_at (Y : List UInt8) : ∀ (X : List UInt8) (n : Option Nat) (out : List Nat), (46 : UInt8) ∉ X → fourS (X ++ 46 :: Y) n out = match decS X n with | none => none | some v => if out.length = 4 then none else fourS Y none (out ++ [v])
  | [], none, out, _ => by show fourS (46 :: Y) none out = _; rw [fourS_cons, if_pos rfl]; rfl
  | [], some v, out, _ => by show fourS (46 :: Y) (some v) out = _; rw [fourS_cons, if_pos rfl]; rfl
  | c :: r, n, out, h => by
    have hc : c ≠ 46 := fun e => h (by simp [e])
    have hr : (46 : UInt8) ∉ r := fun e => h (by simp [e])
    rw [List.cons_append, fourS_cons, if_neg hc]
    unfold decS
    split
    · rfl
    · split
      · rfl
      · exact fourS_at Y r _ out hr

theorem fourS_full : ∀ (l : List UInt8) (n : Option Nat) (out : List Nat), out.length = 4 → fourS l n out = none
  | [], none, out, _ => rfl
  | [], some v, out, h => by show (if out.length = 3 then some (out ++ [v]) else none) = none; rw [if_neg (by omega)]
  | c :: r, n, out, h => by
    rw [fourS_cons]
    split
    · cases n with
      | none => rfl
      | some v => rfl
    · split
      · rfl
      · split
        · rfl
        · exact fourS_full r _ out h

/-- A text is cut at its first such byte, or it has none. -/
theorem cut1_or (c : UInt8) : ∀ l : List UInt8, (∃ X Y, l = X ++ c :: Y ∧ c ∉ X ∧ cutG [c] l = (X, Y, true)) ∨ (c ∉ l ∧ cutG [c] l = (l, [], false))
  | [] => Or.inr ⟨by simp, rfl⟩
  | b :: l => by
    by_cases hb : b = c
    · subst hb
      exact Or.inl ⟨[], l, rfl, by simp, by simp [cutG, List.isPrefixOf]⟩
    · have q : (c == b) = false := by rw [beq_eq_false_iff_ne]; exact fun e => hb e.symm
      have st : cutG [c] (b :: l) = (b :: (cutG [c] l).1, (cutG [c] l).2.1, (cutG [c] l).2.2) := by rw [cutG, if_neg (by simp [List.isPrefixOf, q])]
      rcases cut1_or c l with ⟨X, Y, e, h1, h2⟩ | ⟨h1, h2⟩
      · refine Or.inl ⟨b :: X, Y, by rw [e]; rfl, ?_, by rw [st, h2]⟩
        simp only [List.mem_cons, not_or]
        exact ⟨fun e => hb e.symm, h1⟩
      · refine Or.inr ⟨?_, by rw [st, h2]⟩
        simp only [List.mem_cons, not_or]
        exact ⟨fun e => hb e.symm, h1⟩

/-- The number of bytes. -/
def bnum (n : Nat) (l : List Nat) : Nat := l.foldl (fun n v => n * 256 + v) n

theorem bnum_more (n v : Nat) (l : List Nat) : bnum n (l ++ [v]) = bnum n l * 256 + v := by
  unfold bnum
  rw [List.foldl_append]
  rfl

theorem four_short : ∀ (k : Nat) (out : List Nat) (l : List UInt8), out.length + k = 3 → (fourS l none out).map (bnum 0) = shortF k (bnum 0 out) l
  | 0, out, l, h => by
    rcases cut1_or 46 l with ⟨X, Y, e, h1, h2⟩ | ⟨h1, h2⟩
    · rw [e, fourS_at Y X none out h1, ← e]
      unfold shortF
      rw [h2, if_pos rfl]
      cases decS X none with
      | none => rfl
      | some v =>
        simp only []
        rw [if_neg (by omega), fourS_full Y none _ (by simp; omega)]
        rfl
    · rw [fourS_no l none out h1, decS_is]
      unfold shortF
      rw [h2, if_neg (by simp)]
      simp only []
      cases decV l with
      | none => rfl
      | some v =>
        simp only []
        rw [if_pos (by omega)]
        show some (bnum 0 (out ++ [v])) = _
        rw [bnum_more]
  | k + 1, out, l, h => by
    rcases cut1_or 46 l with ⟨X, Y, e, h1, h2⟩ | ⟨h1, h2⟩
    · rw [e, fourS_at Y X none out h1, ← e, decS_is]
      unfold shortF
      rw [h2, if_pos rfl]
      simp only []
      cases decV X with
      | none => rfl
      | some v =>
        simp only []
        rw [if_neg (by omega), four_short k (out ++ [v]) Y (by simp; omega), bnum_more]
    · rw [fourS_no l none out h1]
      unfold shortF
      rw [h2, if_neg (by simp)]
      cases decS l none with
      | none => rfl
      | some v =>
        simp only []
        rw [if_neg (by omega)]
        rfl

/-- What Four reads are four bytes. -/
theorem four_bytes : ∀ (l : List UInt8) (n : Option Nat) (out bs : List Nat), (∀ v, n = some v → v < 256) → (∀ b ∈ out, b < 256) → fourS l n out = some bs → bs.length = 4 ∧ ∀ b ∈ bs, b < 256
  | [], none, out, bs, _, _, h => by cases h
  | [], some v, out, bs, hn, ho, h => by
    have h' : (if out.length = 3 then some (out ++ [v]) else none) = some bs := h
    by_cases l3 : out.length = 3
    · rw [if_pos l3] at h'
      cases h'
      refine ⟨by simp; omega, fun b hb => ?_⟩
      rcases List.mem_append.1 hb with q | q
      · exact ho b q
      · simp at q; subst q; exact hn b rfl
    · rw [if_neg l3] at h'
      cases h'
  | c :: r, n, out, bs, hn, ho, h => by
    rw [fourS_cons] at h
    split at h
    · cases n with
      | none => cases h
      | some v =>
        simp only [] at h
        split at h
        · cases h
        · refine four_bytes r none (out ++ [v]) bs (fun v e => by cases e) (fun b hb => ?_) h
          rcases List.mem_append.1 hb with q | q
          · exact ho b q
          · simp at q; subst q; exact hn b rfl
    · split at h
      · cases h
      · split at h
        · cases h
        · exact four_bytes r _ out bs (fun v e => by cases e; omega) ho h
end Go.Proofs.YtipjmmhlfmahbaaGreatDoor

namespace Go.Proofs.YtipjmmhlfmahbaaGreatDoor
open Go.ChangeShapes Go.WideShapes Go.ChangeAt Go.RowKit
set_option linter.unusedVariables false
set_option linter.unusedSimpArgs false

/-- Decimal digits behind the number n. -/
def digL (n : Nat) : List UInt8 → Option Nat
  | [] => some n
  | c :: r => if c.toNat < 48 ∨ 57 < c.toNat then none else digL (10 * n + (c.toNat - 48)) r

/-- One to three digits, no nought in front of others. -/
def digR (l : List UInt8) : Option Nat := if l.length < 1 ∨ 3 < l.length ∨ (1 < l.length ∧ l.head? = some 48) then none else digL 0 l

theorem digL_ge : ∀ (l : List UInt8) (m k : Nat), digL m l = some k → m * 10 ^ l.length ≤ k
  | [], m, k, h => by
    cases h
    simp
  | c :: r, m, k, h => by
    unfold digL at h
    split at h
    · cases h
    · have := digL_ge r _ k h
      have e : (10 * m + (c.toNat - 48)) * 10 ^ r.length ≥ 10 * m * 10 ^ r.length := Nat.mul_le_mul_right _ (by omega)
      rw [List.length_cons, Nat.pow_succ]
      have q : m * (10 ^ r.length * 10) = 10 * m * 10 ^ r.length := by rw [Nat.mul_comm (10 ^ r.length) 10, ← Nat.mul_assoc, Nat.mul_comm m 10]
      omega

theorem decS_dig : ∀ (l : List UInt8) (m : Nat), 1 ≤ m → m < 256 → decS l (some m) = match digL m l with
    | none => none
    | some k => if k < 256 then some k else none
  | [], m, h1, h2 => by
    show some m = if m < 256 then some m else none
    rw [if_pos h2]
  | c :: r, m, h1, h2 => by
    unfold decS digL
    by_cases d : c.toNat < 48 ∨ 57 < c.toNat
    · rw [if_pos (by rcases d with d | d; exact Or.inl d; exact Or.inr (Or.inl d)), if_pos d]
    · rw [if_neg (by
        rintro (q | q | q)
        · exact d (Or.inl q)
        · exact d (Or.inr q)
        · cases q; omega), if_neg d]
      show (if 255 < 10 * m + (c.toNat - 48) then none else decS r (some (10 * m + (c.toNat - 48)))) = _
      by_cases b : 255 < 10 * m + (c.toNat - 48)
      · rw [if_pos b]
        cases e : digL (10 * m + (c.toNat - 48)) r with
        | none => rfl
        | some k =>
          have := digL_ge r _ k e
          have p : 1 ≤ 10 ^ r.length := Nat.pow_pos (by decide)
          have q : (10 * m + (c.toNat - 48)) * 1 ≤ (10 * m + (c.toNat - 48)) * 10 ^ r.length := Nat.mul_le_mul_left _ p
          show none = if k < 256 then some k else none
          rw [if_neg (by omega)]
      · rw [if_neg b]
        exact decS_dig r _ (by omega) (by omega)

theorem decV_dig (l : List UInt8) : decV l = match digR l with
    | none => none
    | some k => if k < 256 then some k else none := by
  rw [← decS_is]
  cases l with
  | nil => rfl
  | cons c r =>
    unfold decS digR
    have hl : (c :: r).length = r.length + 1 := rfl
    rw [hl]
    by_cases d : c.toNat < 48 ∨ 57 < c.toNat
    · rw [if_pos (by rcases d with d | d; exact Or.inl d; exact Or.inr (Or.inl d))]
      have e : digL 0 (c :: r) = none := by unfold digL; rw [if_pos d]
      rw [e, ite_self]
    · rw [if_neg (by
        rintro (q | q | q)
        · exact d (Or.inl q)
        · exact d (Or.inr q)
        · cases q)]
      have e : digL 0 (c :: r) = digL (10 * 0 + (c.toNat - 48)) r := by conv => lhs; unfold digL; rw [if_neg d]
      rw [e]
      show (if 255 < 10 * 0 + (c.toNat - 48) then none else decS r (some (10 * 0 + (c.toNat - 48)))) = _
      rw [if_neg (by omega)]
      by_cases z : c = 48
      · subst z
        cases r with
        | nil => rfl
        | cons c2 r2 =>
          rw [if_pos (by simp)]
          have q : (some (10 * 0 + (UInt8.toNat 48 - 48)) : Option Nat) = some 0 := by decide
          rw [q]
          unfold decS
          rw [if_pos (Or.inr (Or.inr rfl))]
      · have m1 : 1 ≤ 10 * 0 + (c.toNat - 48) := by
          have : c.toNat ≠ 48 := fun q => z (UInt8.toNat_inj.1 q)
          omega
        rw [decS_dig r _ m1 (by omega)]
        by_cases l3 : 3 < r.length + 1
        · rw [if_pos (Or.inr (Or.inl l3))]
          cases e2 : digL (10 * 0 + (c.toNat - 48)) r with
          | none => rfl
          | some k =>
            have g := digL_ge r _ k e2
            have p : 10 ^ 3 ≤ 10 ^ r.length := Nat.pow_le_pow_right (by decide) (by omega)
            have q : 1 * 10 ^ 3 ≤ (10 * 0 + (c.toNat - 48)) * 10 ^ r.length := Nat.mul_le_mul m1 p
            show (if k < 256 then some k else none) = none
            rw [if_neg (by omega)]
        · rw [if_neg (by
            rintro (q | q | ⟨_, q⟩)
            · omega
            · exact l3 q
            · simp at q; exact z q)]

/-- A slash among them: no digits. -/
theorem digL_no : ∀ (l : List UInt8) (n : Nat), (47 : UInt8) ∈ l → digL n l = none
  | [], n, h => by cases h
  | c :: r, n, h => by
    unfold digL
    by_cases q : c = 47
    · subst q
      rw [if_pos (Or.inl (by decide))]
    · split
      · rfl
      · exact digL_no r _ ((List.mem_cons.1 h).resolve_left (fun e => q e.symm))

theorem digR_no {l : List UInt8} (h : (47 : UInt8) ∈ l) : digR l = none := by
  unfold digR
  split
  · rfl
  · exact digL_no l 0 h
end Go.Proofs.YtipjmmhlfmahbaaGreatDoor

/-
  Four decimal numbers with dots between, as the reference of package addr goes for them: plain facts, no program.
-/
import Derived.Test.YtgbpnekinbdadaaDoorCutM
namespace Go.Proofs.YtgbpnekinbdadaaDoor
open Go.ChangeShapes Go.WideShapes Go.ChangeAt Go.RowKit
set_option linter.unusedVariables false
set_option linter.unusedSimpArgs false

/-- The number that digits go on to, none ahead of the first one. -/
def decS : List UInt8 → Option Nat → Option Nat
  | [], n => n
  | c :: r, n => if c.toNat < 48 ∨ 57 < c.toNat ∨ n = some 0 then none else if 255 < 10 * n.getD 0 + (c.toNat - 48) then none else decS r (some (10 * n.getD 0 + (c.toNat - 48)))

theorem byteN_mk (l : List UInt8) (i : Nat) : byteN ⟨l.toArray⟩ i = (l.getD i 0).toNat := by
  unfold byteN
  simp

theorem byteN_pre (P r : List UInt8) {i : Nat} (h : i < P.length) : byteN ⟨(P ++ r).toArray⟩ i = byteN ⟨P.toArray⟩ i := by
  rw [byteN_mk, byteN_mk, List.getD_eq_getElem?_getD, List.getElem?_append_left h, ← List.getD_eq_getElem?_getD]

theorem byteN_mid (P : List UInt8) (c : UInt8) (r : List UInt8) : byteN ⟨(P ++ c :: r).toArray⟩ P.length = c.toNat := by
  rw [byteN_mk, List.getD_eq_getElem?_getD, List.getElem?_append_right (Nat.le_refl _), Nat.sub_self]
  rfl

theorem valN_pre (P r : List UInt8) : ∀ k, k ≤ P.length → valN ⟨(P ++ r).toArray⟩ k = valN ⟨P.toArray⟩ k
  | 0, _ => rfl
  | k + 1, h => by
    simp only [valN]
    rw [valN_pre P r k (by omega), byteN_pre P r (by omega)]

theorem size_mk (l : List UInt8) : (⟨l.toArray⟩ : ByteArray).size = l.length := by
  show l.toArray.size = _
  simp

theorem decV_some {l : List UInt8} (p : Printed ⟨l.toArray⟩) (h : valN ⟨l.toArray⟩ l.length < 256) : decV l = some (valN ⟨l.toArray⟩ l.length) := by
  unfold decV
  exact if_pos ⟨p, h⟩

theorem decV_none {l : List UInt8} (h : ¬ (Printed ⟨l.toArray⟩ ∧ valN ⟨l.toArray⟩ l.length < 256)) : decV l = none := by
  unfold decV
  exact if_neg h

theorem decS_go : ∀ (r P : List UInt8) (m : Nat), Printed ⟨P.toArray⟩ → valN ⟨P.toArray⟩ P.length = m → m < 256 → decS r (some m) = decV (P ++ r)
  | [], P, m, hp, hv, hm => by
    rw [List.append_nil, decV_some hp (by omega), hv]
    rfl
  | c :: r, P, m, hp, hv, hm => by
    have hs : P.length = (⟨P.toArray⟩ : ByteArray).size := (size_mk P).symm
    have hs2 : (⟨(P ++ c :: r).toArray⟩ : ByteArray).size = P.length + 1 + r.length := by rw [size_mk]; simp; omega
    have h0 : 0 < P.length := by rw [hs]; exact hp.1
    have mid := byteN_mid P c r
    have v1 : valN ⟨(P ++ c :: r).toArray⟩ (P.length + 1) = 10 * m + (c.toNat - 48) := by
      simp only [valN]
      rw [valN_pre P _ _ (Nat.le_refl _), hv, mid]
    unfold decS
    by_cases d1 : c.toNat < 48 ∨ 57 < c.toNat ∨ some m = some 0
    · rw [if_pos d1]
      refine (decV_none ?_).symm
      rintro ⟨q, _⟩
      rcases d1 with d | d | d
      · have := (q.2.2 P.length (by rw [hs2]; omega)).1
        omega
      · have := (q.2.2 P.length (by rw [hs2]; omega)).2
        omega
      · have m0 : m = 0 := Option.some.inj d
        have l1 : P.length = 1 := by
          apply Classical.byContradiction
          intro cc
          have g := valN_ge ⟨P.toArray⟩ hp P.length (by omega) (by omega) (by omega)
          have := Nat.pow_pos (n := P.length - 1) (show 0 < 10 by decide)
          omega
        have b0 : byteN ⟨P.toArray⟩ 0 = 48 := by
          rw [l1] at hv
          simp only [valN] at hv
          have := (hp.2.2 0 (by omega)).1
          omega
        refine q.2.1 ⟨by rw [hs2]; omega, ?_⟩
        rw [byteN_pre P _ h0, b0]
    · rw [if_neg d1]
      have d2 : ¬ c.toNat < 48 ∧ ¬ 57 < c.toNat ∧ ¬ m = 0 := ⟨fun e => d1 (Or.inl e), fun e => d1 (Or.inr (Or.inl e)), fun e => d1 (Or.inr (Or.inr (by rw [e])))⟩
      show (if 255 < 10 * m + (c.toNat - 48) then none else decS r (some (10 * m + (c.toNat - 48)))) = _
      by_cases d3 : 255 < 10 * m + (c.toNat - 48)
      · rw [if_pos d3]
        refine (decV_none ?_).symm
        rintro ⟨_, q⟩
        have := valN_mono ⟨(P ++ c :: r).toArray⟩ (show P.length + 1 ≤ (P ++ c :: r).length by simp)
        omega
      · rw [if_neg d3]
        have e : P ++ c :: r = (P ++ [c]) ++ r := by simp
        have l2 : (P ++ [c]).length = P.length + 1 := by simp
        rw [e]
        refine decS_go r (P ++ [c]) _ ⟨?_, ?_, ?_⟩ ?_ (by omega)
        · rw [size_mk]; omega
        · rintro ⟨q1, q2⟩
          rw [byteN_pre P _ h0] at q2
          by_cases l1 : P.length = 1
          · rw [l1] at hv
            simp only [valN] at hv
            omega
          · exact hp.2.1 ⟨by omega, q2⟩
        · intro i hi
          rw [size_mk, l2] at hi
          by_cases hi2 : i < P.length
          · rw [byteN_pre P _ hi2]
            exact hp.2.2 i (by omega)
          · obtain rfl : i = P.length := by omega
            rw [byteN_mid P c []]
            omega
        · rw [l2]
          simp only [valN]
          rw [valN_pre P _ _ (Nat.le_refl _), hv, byteN_mid P c []]

theorem decS_is : ∀ r : List UInt8, decS r none = decV r
  | [] => by
    refine (decV_none ?_).symm
    rintro ⟨q, _⟩
    have := q.1
    rw [size_mk] at this
    simp at this
  | c :: r => by
    have mid := byteN_mid [] c r
    simp only [List.nil_append, List.length_nil] at mid
    have hs2 : (⟨(c :: r).toArray⟩ : ByteArray).size = 1 + r.length := by rw [size_mk]; simp; omega
    unfold decS
    by_cases d1 : c.toNat < 48 ∨ 57 < c.toNat ∨ (none : Option Nat) = some 0
    · rw [if_pos d1]
      refine (decV_none ?_).symm
      rintro ⟨q, _⟩
      rcases d1 with d | d | d
      · have := (q.2.2 0 (by rw [hs2]; omega)).1
        omega
      · have := (q.2.2 0 (by rw [hs2]; omega)).2
        omega
      · cases d
    · rw [if_neg d1]
      have d2 : ¬ c.toNat < 48 ∧ ¬ 57 < c.toNat := ⟨fun e => d1 (Or.inl e), fun e => d1 (Or.inr (Or.inl e))⟩
      show (if 255 < 10 * 0 + (c.toNat - 48) then none else decS r (some (10 * 0 + (c.toNat - 48)))) = _
      rw [if_neg (by omega)]
      have b0 : byteN ⟨[c].toArray⟩ 0 = c.toNat := byteN_mid [] c []
      have := decS_go r [c] (10 * 0 + (c.toNat - 48)) ⟨by rw [size_mk]; exact Nat.one_pos, ?_, ?_⟩ ?_ (by omega)
      · exact this
      · rintro ⟨q, _⟩
        rw [size_mk] at q
        simp at q
      · intro i hi
        rw [size_mk] at hi
        obtain rfl : i = 0 := by simp at hi; exact hi
        rw [b0]
        omega
      · show valN _ (0 + 1) = _
        simp only [valN]
        rw [b0]

/-- Four decimal numbers. -/
def fourS : List UInt8 → Option Nat → List Nat → Option (List Nat)
  | [], none, out => none
  | [], some v, out => if out.length = 3 then some (out ++ [v]) else none
  | c :: r, n, out => if c = 46 then (match n with | none => none | some v => if out.length = 4 then none else fourS r none (out ++ [v]))
    else if c.toNat < 48 ∨ 57 < c.toNat ∨ n = some 0 then none else if 255 < 10 * n.getD 0 + (c.toNat - 48) then none else fourS r (some (10 * n.getD 0 + (c.toNat - 48))) out

theorem fourS_cons (c : UInt8) (r : List UInt8) (n : Option Nat) (out : List Nat) : fourS (c :: r) n out = if c = 46 then (match n with | none => none | some v => if out.length = 4 then none else fourS r none (out ++ [v]))
    else if c.toNat < 48 ∨ 57 < c.toNat ∨ n = some 0 then none else if 255 < 10 * n.getD 0 + (c.toNat - 48) then none else fourS r (some (10 * n.getD 0 + (c.toNat - 48))) out := by
  cases n <;> rfl

theorem fourS_no : ∀ (X : List UInt8) (n : Option Nat) (out : List Nat), (46 : UInt8) ∉ X → fourS X n out = match decS X n with | none => none | some v => if out.length = 3 then some (out ++ [v]) else none
  | [], none, out, _ => rfl
  | [], some v, out, _ => rfl
  | c :: r, n, out, h => by
    have hc : c ≠ 46 := fun e => h (by simp [e])
    have hr : (46 : UInt8) ∉ r := fun e => h (by simp [e])
    rw [fourS_cons]
    unfold decS
    rw [if_neg hc]
    split
    · rfl
    · split
      · rfl
      · exact fourS_no r _ out hr

theorem fourS_at (Y : List UInt8) : ∀ (X : List UInt8) (n : Option Nat) (out : List Nat), (46 : UInt8) ∉ X → fourS (X ++ 46 :: Y) n out = match decS X n with | none => none | some v => if out.length = 4 then none else fourS Y none (out ++ [v])
  | [], none, out, _ => by show fourS (46 :: Y) none out = _; rw [fourS_cons, if_pos rfl]; rfl
  | [], some v, out, _ => by show fourS (46 :: Y) (some v) out = _; rw [fourS_cons, if_pos rfl]; rfl
  | c :: r, n, out, h => by
    have hc : c ≠ 46 := fun e => h (by simp [e])
    have hr : (46 : UInt8) ∉ r := fun e => h (by simp [e])
    rw [List.cons_append, fourS_cons, if_neg hc]
    unfold decS
    split
    · rfl
    · split
      · rfl
      · exact fourS_at Y r _ out hr

theorem fourS_full : ∀ (l : List UInt8) (n : Option Nat) (out : List Nat), out.length = 4 → fourS l n out = none
  | [], none, out, _ => rfl
  | [], some v, out, h => by show (if out.length = 3 then some (out ++ [v]) else none) = none; rw [if_neg (by omega)]
  | c :: r, n, out, h => by
    rw [fourS_cons]
    split
    · cases n with
      | none => rfl
      | some v => rfl
    · split
      · rfl
      · split
        · rfl
        · exact fourS_full r _ out h

/-- A text is cut at its first such byte, or it has none. -/
theorem cut1_or (c : UInt8) : ∀ l : List UInt8, (∃ X Y, l = X ++ c :: Y ∧ c ∉ X ∧ cutG [c] l = (X, Y, true)) ∨ (c ∉ l ∧ cutG [c] l = (l, [], false))
  | [] => Or.inr ⟨by simp, rfl⟩
  | b :: l => by
    by_cases hb : b = c
    · subst hb
      exact Or.inl ⟨[], l, rfl, by simp, by simp [cutG, List.isPrefixOf]⟩
    · have q : (c == b) = false := by rw [beq_eq_false_iff_ne]; exact fun e => hb e.symm
      have st : cutG [c] (b :: l) = (b :: (cutG [c] l).1, (cutG [c] l).2.1, (cutG [c] l).2.2) := by rw [cutG, if_neg (by simp [List.isPrefixOf, q])]
      rcases cut1_or c l with ⟨X, Y, e, h1, h2⟩ | ⟨h1, h2⟩
      · refine Or.inl ⟨b :: X, Y, by rw [e]; rfl, ?_, by rw [st, h2]⟩
        simp only [List.mem_cons, not_or]
        exact ⟨fun e => hb e.symm, h1⟩
      · refine Or.inr ⟨?_, by rw [st, h2]⟩
        simp only [List.mem_cons, not_or]
        exact ⟨fun e => hb e.symm, h1⟩

/-- The number of bytes. -/
def bnum (n : Nat) (l : List Nat) : Nat := l.foldl (fun n v => n * 256 + v) n

theorem bnum_more (n v : Nat) (l : List Nat) : bnum n (l ++ [v]) = bnum n l * 256 + v := by
  unfold bnum
  rw [List.foldl_append]
  rfl

theorem four_short : ∀ (k : Nat) (out : List Nat) (l : List UInt8), out.length + k = 3 → (fourS l none out).map (bnum 0) = shortF k (bnum 0 out) l
  | 0, out, l, h => by
    rcases cut1_or 46 l with ⟨X, Y, e, h1, h2⟩ | ⟨h1, h2⟩
    · rw [e, fourS_at Y X none out h1, ← e]
      unfold shortF
      rw [h2, if_pos rfl]
      cases decS X none with
      | none => rfl
      | some v =>
        simp only []
        rw [if_neg (by omega), fourS_full Y none _ (by simp; omega)]
        rfl
    · rw [fourS_no l none out h1, decS_is]
      unfold shortF
      rw [h2, if_neg (by simp)]
      simp only []
      cases decV l with
      | none => rfl
      | some v =>
        simp only []
        rw [if_pos (by omega)]
        show some (bnum 0 (out ++ [v])) = _
        rw [bnum_more]
  | k + 1, out, l, h => by
    rcases cut1_or 46 l with ⟨X, Y, e, h1, h2⟩ | ⟨h1, h2⟩
    · rw [e, fourS_at Y X none out h1, ← e, decS_is]
      unfold shortF
      rw [h2, if_pos rfl]
      simp only []
      cases decV X with
      | none => rfl
      | some v =>
        simp only []
        rw [if_neg (by omega), four_short k (out ++ [v]) Y (by simp; omega), bnum_more]
    · rw [fourS_no l none out h1]
      unfold shortF
      rw [h2, if_neg (by simp)]
      cases decS l none with
      | none => rfl
      | some v =>
        simp only []
        rw [if_neg (by omega)]
        rfl

/-- What Four reads are four bytes. -/
theorem four_bytes : ∀ (l : List UInt8) (n : Option Nat) (out bs : List Nat), (∀ v, n = some v → v < 256) → (∀ b ∈ out, b < 256) → fourS l n out = some bs → bs.length = 4 ∧ ∀ b ∈ bs, b < 256
  | [], none, out, bs, _, _, h => by cases h
  | [], some v, out, bs, hn, ho, h => by
    have h' : (if out.length = 3 then some (out ++ [v]) else none) = some bs := h
    by_cases l3 : out.length = 3
    · rw [if_pos l3] at h'
      cases h'
      refine ⟨by simp; omega, fun b hb => ?_⟩
      rcases List.mem_append.1 hb with q | q
      · exact ho b q
      · simp at q; subst q; exact hn b rfl
    · rw [if_neg l3] at h'
      cases h'
  | c :: r, n, out, bs, hn, ho, h => by
    rw [fourS_cons] at h
    split at h
    · cases n with
      | none => cases h
      | some v =>
        simp only [] at h
        split at h
        · cases h
        · refine four_bytes r none (out ++ [v]) bs (fun v e => by cases e) (fun b hb => ?_) h
          rcases List.mem_append.1 hb with q | q
          · exact ho b q
          · simp at q; subst q; exact hn b rfl
    · split at h
      · cases h
      · split at h
        · cases h
        · exact four_bytes r _ out bs (fun v e => by cases e; omega) ho h
end Go.Proofs.YtgbpnekinbdadaaDoor

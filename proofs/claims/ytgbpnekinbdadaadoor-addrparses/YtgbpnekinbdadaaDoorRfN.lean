/-
  Parse of the reference of package addr: what a round of its main loop comes to. Plain facts, no program.
-/
import Derived.Test.YtgbpnekinbdadaaDoorRfQ
namespace Go.Proofs.YtgbpnekinbdadaaDoor
open Go.ChangeShapes Go.WideShapes Go.ChangeAt Go.RowKit
set_option linter.unusedVariables false
set_option linter.unusedSimpArgs false

/-- What the bytes read so far come to. -/
def finF : Option (List Nat × Option Nat) → Option Nat
  | none => none
  | some (o, g) => rfin o g

def seg (s : ByteArray) (a e : Nat) : List UInt8 := (s.data.toList.drop a).take (e - a)

theorem seg_nil (s : ByteArray) (a : Nat) : seg s a a = [] := by unfold seg; simp

theorem seg_step (s : ByteArray) (a e : Nat) (h : a ≤ e) (he : e < s.size) : seg s a (e + 1) = seg s a e ++ [bt s e] := by
  unfold seg
  have h' : e < s.data.toList.length := by rw [len8]; exact he
  have d : e - a < (s.data.toList.drop a).length := by rw [List.length_drop]; omega
  rw [show e + 1 - a = (e - a) + 1 by omega, List.take_add_one, List.getElem?_eq_getElem d]
  congr 1
  show [_] = [_]
  unfold bt
  rw [List.getElem_drop, List.getD_eq_getElem?_getD, List.getElem?_eq_getElem h']
  simp only [show a + (e - a) = e by omega, Option.getD_some]

theorem seg_len (s : ByteArray) (a e : Nat) (h : a ≤ e) (he : e ≤ s.size) : (seg s a e).length = e - a := by
  unfold seg
  rw [List.length_take, List.length_drop, len8]
  omega

theorem seg_cons (s : ByteArray) (k e : Nat) (h : k < e) (he : e ≤ s.size) : seg s k e = bt s k :: seg s (k + 1) e := by
  unfold seg
  rw [drop_bt s k (by omega), show e - k = (e - (k + 1)) + 1 by omega, List.take_succ_cons]

theorem seg_all (s : ByteArray) (a : Nat) : seg s a s.size = s.data.toList.drop a := by
  unfold seg
  rw [List.take_of_length_le]
  rw [List.length_drop, len8]
  exact Nat.le_refl _

theorem seg_cut (s : ByteArray) (a e : Nat) (h : a ≤ e) (he : e < s.size) : s.data.toList.drop a = seg s a e ++ bt s e :: s.data.toList.drop (e + 1) := by
  unfold seg
  rw [← drop_bt s e he]
  have : s.data.toList.drop e = (s.data.toList.drop a).drop (e - a) := by rw [List.drop_drop]; congr 1; omega
  rw [this, List.take_append_drop]

theorem drop_len (s : ByteArray) (a : Nat) : (s.data.toList.drop a).length = s.size - a := by rw [List.length_drop, len8]

theorem drop_all (s : ByteArray) : s.data.toList.drop s.size = [] := List.drop_eq_nil_of_le (by rw [len8]; exact Nat.le_refl _)

/-- Two colons in front. -/
theorem take2 (s : ByteArray) : (s.data.toList.take 2 = [58, 58]) ↔ (2 ≤ s.size ∧ bt s 0 = 58 ∧ bt s 1 = 58) := by
  constructor
  · intro h
    have l2 : 2 ≤ s.size := by
      have := congrArg List.length h
      rw [List.length_take, len8] at this
      simp at this
      omega
    refine ⟨l2, ?_⟩
    have e0 := drop_bt s 0 (by omega)
    have e1 := drop_bt s 1 (by omega)
    rw [List.drop_zero] at e0
    rw [e0, e1] at h
    simp at h
    exact h
  · rintro ⟨l2, h0, h1⟩
    have e0 := drop_bt s 0 (by omega)
    have e1 := drop_bt s 1 (by omega)
    rw [List.drop_zero] at e0
    rw [e0, e1, h0, h1]
    rfl

/-- Where the groups begin. -/
def Start (s : ByteArray) (a : Nat) (gap : Option Nat) : Prop := a ≤ s.size ∧ (gap = none ∨ gap = some 0) ∧ refL s.data.toList = finF (rloop (s.size + 1) (s.data.toList.drop a) [] gap)

def StartB (s : ByteArray) : Bool → Prop
  | true => Start s 2 (some 0)
  | false => Start s 0 none

theorem start_two {s : ByteArray} (h : 2 ≤ s.size ∧ bt s 0 = 58 ∧ bt s 1 = 58) : StartB s true := by
  refine ⟨h.1, Or.inr rfl, ?_⟩
  unfold refL
  rw [if_pos ((take2 s).2 h), len8]
  cases rloop (s.size + 1) (s.data.toList.drop 2) [] (some 0) with
  | none => rfl
  | some p => rfl

theorem start_one {s : ByteArray} (h : ¬ (2 ≤ s.size ∧ bt s 0 = 58 ∧ bt s 1 = 58)) : StartB s false := by
  refine ⟨Nat.zero_le _, Or.inl rfl, ?_⟩
  unfold refL
  rw [if_neg (fun e => h ((take2 s).1 e)), len8, List.drop_zero]
  cases rloop (s.size + 1) s.data.toList [] none with
  | none => rfl
  | some p => rfl

theorem c58_int (c : UInt8) : ((c.toNat : Int) == 58) = decide (c = 58) := by
  rw [Bool.eq_iff_iff, beq_iff_eq, decide_eq_true_iff]
  exact ⟨fun e => UInt8.toNat_inj.1 (by have : (58 : UInt8).toNat = 58 := rfl; omega), fun e => by rw [e]; rfl⟩

theorem c46_int (c : UInt8) : ((c.toNat : Int) == 46) = decide (c = 46) := by
  rw [Bool.eq_iff_iff, beq_iff_eq, decide_eq_true_iff]
  exact ⟨fun e => UInt8.toNat_inj.1 (by have : (46 : UInt8).toNat = 46 := rfl; omega), fun e => by rw [e]; rfl⟩

theorem hexL_lt : ∀ (l : List UInt8) (a n : Nat), hexL a l = some n → n < (a + 1) * 16 ^ l.length
  | [], a, n, h => by
    cases h
    simp
  | c :: r, a, n, h => by
    unfold hexL at h
    split at h
    · rename_i d hd
      have d16 := hexD_lt hd
      have := hexL_lt r _ n h
      have m : (a * 16 + d + 1) * 16 ^ r.length ≤ (a + 1) * 16 * 16 ^ r.length := Nat.mul_le_mul_right _ (by omega)
      rw [List.length_cons, Nat.pow_succ, Nat.mul_comm (16 ^ r.length) 16, ← Nat.mul_assoc]
      omega
    · cases h

/-- The main loop's state. -/
structure PIn (s : ByteArray) (out : List Nat) (gap : Option Nat) (a f : Nat) : Prop where
  le : a ≤ s.size
  ob : ∀ b ∈ out, b < 256
  ol : out.length ≤ 16
  gb : ∀ g, gap = some g → g ≤ out.length
  lf : s.size - a < f
  rl : refL s.data.toList = finF (rloop f (s.data.toList.drop a) out gap)

/-- Behind the main loop. -/
structure PEx (s : ByteArray) (out : List Nat) (gap : Option Nat) : Prop where
  ob : ∀ b ∈ out, b < 256
  ol : out.length ≤ 20
  gb : ∀ g, gap = some g → g ≤ out.length
  rl : refL s.data.toList = rfin out gap

theorem StartB.pin {s : ByteArray} {t : Bool} (h : StartB s t) : PIn s [] (cond t (some 0) none) (cond t 2 0) (s.size + 1) := by
  cases t with
  | true => exact ⟨h.1, by simp, by simp, (by intro g e; cases e; simp), by show s.size - 2 < _; omega, h.2.2⟩
  | false => exact ⟨h.1, by simp, by simp, (by intro g e; cases e), by show s.size - 0 < _; omega, h.2.2⟩

theorem PIn.done {s : ByteArray} {out : List Nat} {gap : Option Nat} {f : Nat} (h : PIn s out gap s.size f) : PEx s out gap := by
  refine ⟨h.ob, by have := h.ol; omega, h.gb, ?_⟩
  have := h.lf
  obtain ⟨f', rfl⟩ : ∃ f', f = f' + 1 := ⟨f - 1, by omega⟩
  rw [h.rl, drop_all]
  rfl

/-- A piece: from a to e. -/
structure Piece (s : ByteArray) (a e : Nat) : Prop where
  ae : a ≤ e
  es : e ≤ s.size
  no : (58 : UInt8) ∉ seg s a e
  en : e = s.size ∨ bt s e = 58

theorem Piece.cut {s : ByteArray} {a e : Nat} (h : Piece s a e) : (e = s.size ∧ cutG [58] (s.data.toList.drop a) = (seg s a e, [], false)) ∨ (e < s.size ∧ bt s e = 58 ∧ cutG [58] (s.data.toList.drop a) = (seg s a e, s.data.toList.drop (e + 1), true)) := by
  by_cases q : e = s.size
  · subst q
    refine Or.inl ⟨rfl, ?_⟩
    have := h.no
    rw [seg_all] at this ⊢
    exact cut1_no 58 _ this
  · have lt : e < s.size := by have := h.es; omega
    have b := h.en.resolve_left q
    refine Or.inr ⟨lt, b, ?_⟩
    have c := seg_cut s a e h.ae lt
    rw [b] at c
    rw [c, cut1_at 58 _ _ h.no]

/-- Behind a group. -/
def tailF (f : Nat) (Y : List UInt8) (o : List Nat) (k : Nat) (gap : Option Nat) : Option (List Nat × Option Nat) := match Y with
  | [] => none
  | c :: Z => if c = 58 then (match gap with
      | some _ => none
      | none => rloop f Z o (some k))
    else rloop f (c :: Z) o gap

theorem rloop_at (f : Nat) (l : List UInt8) (out : List Nat) (gap : Option Nat) (h0 : l ≠ []) {X Y : List UInt8} {fnd : Bool} (hc : cutG [58] l = (X, Y, fnd)) : rloop (f + 1) l out gap = if (46 : UInt8) ∈ X then (fourS l none []).map (fun b => (out ++ b, gap))
    else match hexG X with
      | none => none
      | some n => if 14 < out.length then none
        else if fnd = false then some (out ++ [n / 256, n % 256], gap)
        else tailF f Y (out ++ [n / 256, n % 256]) (out.length + 2) gap := by
  have e : rloop (f + 1) l out gap = if l = [] then some (out, gap) else
    if (46 : UInt8) ∈ (cutG [58] l).1 then (fourS l none []).map (fun b => (out ++ b, gap))
    else match hexG (cutG [58] l).1 with
      | none => none
      | some n => if 14 < out.length then none
        else if (cutG [58] l).2.2 = false then some (out ++ [n / 256, n % 256], gap)
        else tailF f (cutG [58] l).2.1 (out ++ [n / 256, n % 256]) (out.length + 2) gap := rfl
  rw [e, if_neg h0, hc]

theorem PIn.step {s : ByteArray} {out : List Nat} {gap : Option Nat} {a f e : Nat} (h : PIn s out gap a f) (p : Piece s a e) (ha : a < s.size) : ∃ (f' : Nat) (Y : List UInt8) (fnd : Bool), f = f' + 1 ∧ s.size - a ≤ f' ∧ ((e = s.size ∧ fnd = false) ∨ (e < s.size ∧ fnd = true ∧ Y = s.data.toList.drop (e + 1))) ∧ refL s.data.toList = finF (if (46 : UInt8) ∈ seg s a e then (fourS (s.data.toList.drop a) none []).map (fun b => (out ++ b, gap))
    else match hexG (seg s a e) with
      | none => none
      | some n => if 14 < out.length then none
        else if fnd = false then some (out ++ [n / 256, n % 256], gap)
        else tailF f' Y (out ++ [n / 256, n % 256]) (out.length + 2) gap) := by
  have := h.lf
  obtain ⟨f', rfl⟩ : ∃ f', f = f' + 1 := ⟨f - 1, by omega⟩
  have ne : s.data.toList.drop a ≠ [] := by rw [drop_bt s a ha]; simp
  rcases p.cut with ⟨e1, e2⟩ | ⟨e1, _, e2⟩
  · exact ⟨f', [], false, rfl, by omega, Or.inl ⟨e1, rfl⟩, by rw [h.rl, rloop_at f' _ out gap ne e2]⟩
  · exact ⟨f', _, true, rfl, by omega, Or.inr ⟨e1, rfl, rfl⟩, by rw [h.rl, rloop_at f' _ out gap ne e2]⟩

theorem PIn.dot_no {s : ByteArray} {out : List Nat} {gap : Option Nat} {a f e : Nat} (h : PIn s out gap a f) (p : Piece s a e) (ha : a < s.size) (d : (46 : UInt8) ∈ seg s a e) (q : fourS (s.data.toList.drop a) none [] = none) : refL s.data.toList = none := by
  obtain ⟨f', Y, fnd, _, _, hY, e1⟩ := h.step p ha
  rw [e1, if_pos d, q]
  rfl

theorem PIn.dot_yes {s : ByteArray} {out : List Nat} {gap : Option Nat} {a f e : Nat} (h : PIn s out gap a f) (p : Piece s a e) (ha : a < s.size) (d : (46 : UInt8) ∈ seg s a e) {b : List Nat} (q : fourS (s.data.toList.drop a) none [] = some b) : PEx s (out ++ b) gap := by
  obtain ⟨f', Y, fnd, _, _, hY, e1⟩ := h.step p ha
  obtain ⟨b4, b256⟩ := four_bytes _ none [] b (fun v e => by cases e) (fun b m => by cases m) q
  refine ⟨fun x hx => ?_, by rw [List.length_append, b4]; have := h.ol; omega, fun g hg => ?_, ?_⟩
  · rcases List.mem_append.1 hx with m | m
    · exact h.ob x m
    · exact b256 x m
  · rw [List.length_append]
    have := h.gb g hg
    omega
  · rw [e1, if_pos d, q]
    rfl

theorem PIn.size_no {s : ByteArray} {out : List Nat} {gap : Option Nat} {a f e : Nat} (h : PIn s out gap a f) (p : Piece s a e) (ha : a < s.size) (d : (46 : UInt8) ∉ seg s a e) (q : e = a ∨ 4 < e - a) : refL s.data.toList = none := by
  obtain ⟨f', Y, fnd, _, _, hY, e1⟩ := h.step p ha
  have : hexG (seg s a e) = none := by
    unfold hexG
    rw [if_pos]
    rw [seg_len s a e p.ae p.es]
    omega
  rw [e1, if_neg d, this]
  rfl

theorem PIn.hex_is {s : ByteArray} {out : List Nat} {gap : Option Nat} {a f e : Nat} (h : PIn s out gap a f) (p : Piece s a e) (ha : a < s.size) (q : a < e) (q4 : e - a ≤ 4) : hexG (seg s a e) = hexL 0 (seg s a e) := by
  unfold hexG
  rw [if_neg]
  rw [seg_len s a e p.ae p.es]
  omega

theorem PIn.hex_no {s : ByteArray} {out : List Nat} {gap : Option Nat} {a f e : Nat} (h : PIn s out gap a f) (p : Piece s a e) (ha : a < s.size) (d : (46 : UInt8) ∉ seg s a e) (q : a < e) (q4 : e - a ≤ 4) (k : hexL 0 (seg s a e) = none) : refL s.data.toList = none := by
  obtain ⟨f', Y, fnd, _, _, hY, e1⟩ := h.step p ha
  rw [e1, if_neg d, h.hex_is p ha q q4, k]
  rfl

theorem PIn.hex_lt {s : ByteArray} {out : List Nat} {gap : Option Nat} {a f e : Nat} (h : PIn s out gap a f) (p : Piece s a e) (ha : a < s.size) (q : a < e) (q4 : e - a ≤ 4) {n : Nat} (k : hexL 0 (seg s a e) = some n) : n < 65536 := by
  have := hexL_lt _ _ _ k
  rw [seg_len s a e p.ae p.es] at this
  have m : 16 ^ (e - a) ≤ 16 ^ 4 := Nat.pow_le_pow_right (by omega) q4
  omega

theorem PIn.long_no {s : ByteArray} {out : List Nat} {gap : Option Nat} {a f e : Nat} (h : PIn s out gap a f) (p : Piece s a e) (ha : a < s.size) (d : (46 : UInt8) ∉ seg s a e) (q : a < e) (q4 : e - a ≤ 4) {n : Nat} (k : hexL 0 (seg s a e) = some n) (l : 14 < out.length) : refL s.data.toList = none := by
  obtain ⟨f', Y, fnd, _, _, hY, e1⟩ := h.step p ha
  rw [e1, if_neg d, h.hex_is p ha q q4, k]
  simp only []
  rw [if_pos l]
  rfl

theorem PIn.more_ob {s : ByteArray} {out : List Nat} {gap : Option Nat} {a f e : Nat} (h : PIn s out gap a f) (p : Piece s a e) (ha : a < s.size) (n : Nat) (hn : n < 65536) : ∀ b ∈ out ++ [n / 256, n % 256], b < 256 := by
  intro x hx
  rcases List.mem_append.1 hx with m | m
  · exact h.ob x m
  · simp at m
    omega

theorem PIn.ends {s : ByteArray} {out : List Nat} {gap : Option Nat} {a f e : Nat} (h : PIn s out gap a f) (p : Piece s a e) (ha : a < s.size) (d : (46 : UInt8) ∉ seg s a e) (q : a < e) (q4 : e - a ≤ 4) {n : Nat} (k : hexL 0 (seg s a e) = some n) (l : out.length ≤ 14) (z : e = s.size) : PEx s (out ++ [n / 256, n % 256]) gap := by
  obtain ⟨f', Y, fnd, _, _, hY, e1⟩ := h.step p ha
  refine ⟨h.more_ob p ha n (h.hex_lt p ha q q4 k), by rw [List.length_append]; simp; omega, fun g hg => by rw [List.length_append]; have := h.gb g hg; omega, ?_⟩
  rw [e1, if_neg d, h.hex_is p ha q q4, k]
  simp only []
  rw [if_neg (by omega), if_pos (by rcases hY with ⟨_, q⟩ | ⟨q, _⟩; exact q; omega)]
  rfl

theorem PIn.last_no {s : ByteArray} {out : List Nat} {gap : Option Nat} {a f e : Nat} (h : PIn s out gap a f) (p : Piece s a e) (ha : a < s.size) (d : (46 : UInt8) ∉ seg s a e) (q : a < e) (q4 : e - a ≤ 4) {n : Nat} (k : hexL 0 (seg s a e) = some n) (z : e + 1 = s.size) : refL s.data.toList = none := by
  obtain ⟨f', Y, fnd, _, _, hY, e1⟩ := h.step p ha
  rw [e1, if_neg d, h.hex_is p ha q q4, k]
  simp only []
  obtain ⟨rfl, rfl⟩ : fnd = true ∧ Y = s.data.toList.drop (e + 1) := by rcases hY with ⟨q, _⟩ | ⟨_, q⟩; omega; exact q
  rw [z, drop_all]
  split <;> rfl

theorem PIn.gap_no {s : ByteArray} {out : List Nat} {gap : Option Nat} {a f e : Nat} (h : PIn s out gap a f) (p : Piece s a e) (ha : a < s.size) (d : (46 : UInt8) ∉ seg s a e) (q : a < e) (q4 : e - a ≤ 4) {n : Nat} (k : hexL 0 (seg s a e) = some n) (z : e + 1 < s.size) (c : bt s (e + 1) = 58) {g : Nat} (hg : gap = some g) : refL s.data.toList = none := by
  obtain ⟨f', Y, fnd, _, _, hY, e1⟩ := h.step p ha
  rw [e1, if_neg d, h.hex_is p ha q q4, k]
  simp only []
  obtain ⟨rfl, rfl⟩ : fnd = true ∧ Y = s.data.toList.drop (e + 1) := by rcases hY with ⟨q, _⟩ | ⟨_, q⟩; omega; exact q
  subst hg
  rw [drop_bt s (e + 1) z, c]
  split
  · rfl
  · rfl

theorem PIn.gap_yes {s : ByteArray} {out : List Nat} {gap : Option Nat} {a f e : Nat} (h : PIn s out gap a f) (p : Piece s a e) (ha : a < s.size) (d : (46 : UInt8) ∉ seg s a e) (q : a < e) (q4 : e - a ≤ 4) {n : Nat} (k : hexL 0 (seg s a e) = some n) (l : out.length ≤ 14) (z : e + 1 < s.size) (c : bt s (e + 1) = 58) (hg : gap = none) : ∃ f', PIn s (out ++ [n / 256, n % 256]) (some (out.length + 2)) (e + 2) f' := by
  obtain ⟨f', Y, fnd, ef, hf, hY, e1⟩ := h.step p ha
  refine ⟨f', by omega, h.more_ob p ha n (h.hex_lt p ha q q4 k), by rw [List.length_append]; simp; omega, fun g e => by cases e; rw [List.length_append]; simp, by omega, ?_⟩
  rw [e1, if_neg d, h.hex_is p ha q q4, k]
  simp only []
  obtain ⟨rfl, rfl⟩ : fnd = true ∧ Y = s.data.toList.drop (e + 1) := by rcases hY with ⟨q, _⟩ | ⟨_, q⟩; omega; exact q
  rw [if_neg (by omega : ¬ 14 < out.length), if_neg (by simp), drop_bt s (e + 1) z, c]
  subst hg
  rfl

theorem PIn.goes {s : ByteArray} {out : List Nat} {gap : Option Nat} {a f e : Nat} (h : PIn s out gap a f) (p : Piece s a e) (ha : a < s.size) (d : (46 : UInt8) ∉ seg s a e) (q : a < e) (q4 : e - a ≤ 4) {n : Nat} (k : hexL 0 (seg s a e) = some n) (l : out.length ≤ 14) (z : e + 1 < s.size) (c : bt s (e + 1) ≠ 58) : ∃ f', PIn s (out ++ [n / 256, n % 256]) gap (e + 1) f' := by
  obtain ⟨f', Y, fnd, ef, hf, hY, e1⟩ := h.step p ha
  refine ⟨f', by omega, h.more_ob p ha n (h.hex_lt p ha q q4 k), by rw [List.length_append]; simp; omega, fun g e => by have := h.gb g e; rw [List.length_append]; omega, by omega, ?_⟩
  rw [e1, if_neg d, h.hex_is p ha q q4, k]
  simp only []
  obtain ⟨rfl, rfl⟩ : fnd = true ∧ Y = s.data.toList.drop (e + 1) := by rcases hY with ⟨q, _⟩ | ⟨_, q⟩; omega; exact q
  rw [if_neg (by omega : ¬ 14 < out.length), if_neg (by simp), drop_bt s (e + 1) z]
  unfold tailF
  simp only []
  rw [if_neg c]

theorem noI_eq (gap : Option Nat) (i : Nat) : ((i : Int) == noI gap) = decide (gap = some i) := by
  cases gap with
  | none => rw [Bool.eq_iff_iff, beq_iff_eq, decide_eq_true_iff]; exact ⟨fun e => by have : (i : Int) = -1 := e; omega, fun e => by cases e⟩
  | some g => rw [Bool.eq_iff_iff, beq_iff_eq, decide_eq_true_iff]; exact ⟨fun e => by have : (i : Int) = (g : Int) := e; congr 1; omega, fun e => by cases e; rfl⟩

theorem noI_eq' (gap : Option Nat) (i : Nat) : (noI gap == (i : Int)) = decide (gap = some i) := by rw [Bool.beq_comm, noI_eq]

/-- Is what was read no address? -/
def badF (out : List Nat) : Option Nat → Bool
  | none => decide (out.length ≠ 16)
  | some _ => decide (14 < out.length)

theorem PEx.bad {s : ByteArray} {out : List Nat} {gap : Option Nat} (h : PEx s out gap) (b : badF out gap = true) : refL s.data.toList = none := by
  rw [h.rl]
  cases gap with
  | none => rw [rfin_none, if_neg (of_decide_eq_true b)]
  | some g => rw [rfin_some, if_pos (of_decide_eq_true b)]

/-- All bytes, those up to i put in. -/
def allF (out : List Nat) : Option Nat → Nat → List Nat
  | none, i => out.take i
  | some g, i => if i ≤ g then out.take i else out.take g ++ List.replicate (16 - out.length) 0 ++ (out.take i).drop g

/-- Ahead of byte i. -/
def allM (out : List Nat) (gap : Option Nat) (i : Nat) : List Nat := if gap = some i then allF out gap i ++ List.replicate (16 - out.length) 0 else allF out gap i

theorem all_zero (out : List Nat) (gap : Option Nat) : allF out gap 0 = [] := by
  cases gap with
  | none => simp [allF]
  | some g => simp [allF]

theorem take_more {out : List Nat} {i x : Nat} (hx : out[i]? = some x) : out.take (i + 1) = out.take i ++ [x] := by
  rw [List.take_add_one, hx]
  rfl

theorem all_next {out : List Nat} {gap : Option Nat} {i x : Nat} (hx : out[i]? = some x) : allF out gap (i + 1) = allM out gap i ++ [x] := by
  have hi : i < out.length := (List.getElem?_eq_some_iff.1 hx).1
  cases gap with
  | none =>
    unfold allM
    rw [if_neg (by simp)]
    exact take_more hx
  | some g =>
    have tl : (out.take i).length = i := by rw [List.length_take]; omega
    unfold allM
    by_cases c : g = i
    · subst c
      rw [if_pos rfl]
      show (if g + 1 ≤ g then _ else _) = (if g ≤ g then _ else _) ++ _ ++ _
      rw [if_neg (by omega), if_pos (Nat.le_refl _), take_more hx, List.drop_left' tl]
    · rw [if_neg (by simp; exact c)]
      show (if i + 1 ≤ g then _ else _) = (if i ≤ g then _ else _) ++ _
      by_cases d : i + 1 ≤ g
      · rw [if_pos d, if_pos (by omega), take_more hx]
      · rw [if_neg d, if_neg (by omega), take_more hx, List.drop_append_of_le_length (by omega)]
        simp only [List.append_assoc]

theorem PEx.fin {s : ByteArray} {out : List Nat} {gap : Option Nat} (h : PEx s out gap) (b : badF out gap = false) : refL s.data.toList = some (bnum 0 (allM out gap out.length)) ∧ (allM out gap out.length).length = 16 ∧ ∀ x ∈ allM out gap out.length, x < 256 := by
  have tk : out.take out.length = out := List.take_of_length_le (Nat.le_refl _)
  cases gap with
  | none =>
    have l : out.length = 16 := by
      have := of_decide_eq_false b
      omega
    have e : allM out none out.length = out := by
      unfold allM
      rw [if_neg (by simp)]
      exact tk
    rw [e, h.rl, rfin_none, if_pos l]
    exact ⟨rfl, l, h.ob⟩
  | some g =>
    have l : ¬ 14 < out.length := of_decide_eq_false b
    have gl := h.gb g rfl
    have e : allM out (some g) out.length = out.take g ++ List.replicate (16 - out.length) 0 ++ out.drop g := by
      unfold allM
      by_cases c : g = out.length
      · subst c
        rw [if_pos rfl]
        show (if out.length ≤ out.length then _ else _) ++ _ = _
        rw [if_pos (Nat.le_refl _), tk, List.drop_length, List.append_nil]
      · rw [if_neg (by simp; exact c)]
        show (if out.length ≤ g then _ else _) = _
        rw [if_neg (by omega), tk]
    rw [e, h.rl, rfin_some, if_neg l]
    refine ⟨rfl, by simp; omega, fun x hx => ?_⟩
    rcases List.mem_append.1 hx with m | m
    · rcases List.mem_append.1 m with m | m
      · exact h.ob x (List.mem_of_mem_take m)
      · rw [(List.mem_replicate.1 m).2]
        omega
    · exact h.ob x (List.mem_of_mem_drop m)

theorem below_grown0 {B : Nat} {e : TypeId} {w W W' : World} {u : Value} {n : Nat} {xs : List Value} (hb : Below B w W) (hs : B ≤ W.heap.size) (ho : W.ownsRow B e 1 u n xs) (hg : W.grownBy W' u.ownBlock) : Below B w W' := by
  have bl : ∀ k, k < B → W'.heap[k]? = W.heap[k]? := fun k hk => hg.block k (by omega) (fun e => by
    have := (ho.lt k e.symm).1
    omega)
  exact hb.trans ⟨hg.os, hg.tape, hg.output, hg.size, bl⟩
end Go.Proofs.YtgbpnekinbdadaaDoor

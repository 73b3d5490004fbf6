/-
  Frames, plainly: bytes as a list, the sum as any function g of a list of bytes below 2 ^ 32.
-/
import Derived.WalkKit

namespace Go.Proofs.YtahdgdoicpgcmaaDoor
open Go

/-- A number below 2 ^ 32 as four bytes, the lowest first. -/
def lay4 (n : Nat) : List UInt8 := [UInt8.ofNat (n % 256), UInt8.ofNat (n / 256 % 256), UInt8.ofNat (n / 65536 % 256), UInt8.ofNat (n / 16777216 % 256)]
/-- The byte i of l as a number; 0 past the end. -/
def by4 (l : List UInt8) (i : Nat) : Nat := (l.getD i 0).toNat
/-- The number that the first four bytes lay. -/
def rd4 (l : List UInt8) : Nat := by4 l 0 + 256 * by4 l 1 + 65536 * by4 l 2 + 16777216 * by4 l 3
/-- The frame of a record. -/
def frF (g : List UInt8 → Nat) (s : List UInt8) : List UInt8 := lay4 s.length ++ lay4 (g (lay4 s.length ++ s)) ++ s
/-- The record whose frame l begins with. -/
def hdF (g : List UInt8 → Nat) (l : List UInt8) : Option (List UInt8) :=
  if l.length < 8 then none
  else if 65536 < rd4 l ∨ l.length < 8 + rd4 l then none
  else if frF g ((l.drop 8).take (rd4 l)) = l.take (8 + rd4 l) then some ((l.drop 8).take (rd4 l)) else none

theorem lay4_length (n : Nat) : (lay4 n).length = 4 := rfl

theorem frF_length (g : List UInt8 → Nat) (s : List UInt8) : (frF g s).length = 8 + s.length := by
  simp only [frF, List.length_append, lay4_length]

theorem ofNat_toNat8 {n : Nat} (h : n < 256) : (UInt8.ofNat n).toNat = n := by
  rw [UInt8.toNat_ofNat']; omega

theorem rd4_lay {n : Nat} (h : n < 4294967296) (r : List UInt8) : rd4 (lay4 n ++ r) = n := by
  have e : rd4 (lay4 n ++ r) = (UInt8.ofNat (n % 256)).toNat + 256 * (UInt8.ofNat (n / 256 % 256)).toNat + 65536 * (UInt8.ofNat (n / 65536 % 256)).toNat + 16777216 * (UInt8.ofNat (n / 16777216 % 256)).toNat := rfl
  rw [e, ofNat_toNat8 (by omega), ofNat_toNat8 (by omega), ofNat_toNat8 (by omega), ofNat_toNat8 (by omega)]
  omega

theorem rd4_fr (g : List UInt8 → Nat) {s : List UInt8} (h : s.length ≤ 65536) (r : List UInt8) : rd4 (frF g s ++ r) = s.length := by
  have e : frF g s ++ r = lay4 s.length ++ (lay4 (g (lay4 s.length ++ s)) ++ s ++ r) := by
    simp only [frF, List.append_assoc]
  rw [e, rd4_lay (by omega)]

theorem drop_fr (g : List UInt8 → Nat) (s r : List UInt8) : (frF g s ++ r).drop 8 = s ++ r := by
  have e : frF g s ++ r = (lay4 s.length ++ lay4 (g (lay4 s.length ++ s))) ++ (s ++ r) := by
    simp only [frF, List.append_assoc]
  rw [e, List.drop_left' (by simp only [List.length_append, lay4_length])]

/-- What begins with a frame: its record. -/
theorem hd_fr (g : List UInt8 → Nat) {s : List UInt8} (h : s.length ≤ 65536) (r : List UInt8) : hdF g (frF g s ++ r) = some s := by
  have hl : (frF g s ++ r).length = 8 + s.length + r.length := by rw [List.length_append, frF_length]
  have ht : ((frF g s ++ r).drop 8).take s.length = s := by
    rw [drop_fr, List.take_left' rfl]
  have hw : (frF g s ++ r).take (8 + s.length) = frF g s := List.take_left' (frF_length g s)
  unfold hdF
  rw [rd4_fr g h r, if_neg (by omega), if_neg (by omega), ht, hw, if_pos rfl]

/-- A record that is told: the bytes begin with its frame. -/
theorem hd_some {g : List UInt8 → Nat} {l s : List UInt8} (h : hdF g l = some s) : s.length ≤ 65536 ∧ 8 + s.length ≤ l.length ∧ s = (l.drop 8).take s.length ∧ l.take (8 + s.length) = frF g s ∧ l = frF g s ++ l.drop (8 + s.length) := by
  unfold hdF at h
  by_cases h1 : l.length < 8
  · rw [if_pos h1] at h; cases h
  rw [if_neg h1] at h
  by_cases h2 : 65536 < rd4 l ∨ l.length < 8 + rd4 l
  · rw [if_pos h2] at h; cases h
  rw [if_neg h2] at h
  by_cases h3 : frF g ((l.drop 8).take (rd4 l)) = l.take (8 + rd4 l)
  · rw [if_pos h3] at h
    have e := Option.some.inj h
    have hn : s.length = rd4 l := by rw [← e, List.length_take, List.length_drop]; omega
    refine ⟨by omega, by omega, by rw [hn, e], by rw [hn, ← h3, e], ?_⟩
    have : l.take (8 + s.length) = frF g s := by rw [hn, ← h3, e]
    rw [← this, List.take_append_drop]
  · rw [if_neg h3] at h; cases h

/-- A frame that is torn has no record. -/
theorem hd_torn (g : List UInt8 → Nat) {s : List UInt8} (h : s.length ≤ 65536) {k : Nat} (hk : k < 8 + s.length) : hdF g ((frF g s).take k) = none := by
  have hl : ((frF g s).take k).length = k := by rw [List.length_take, frF_length]; omega
  unfold hdF
  by_cases h8 : k < 8
  · rw [if_pos (by omega)]
  rw [if_neg (by omega), if_pos]
  refine .inr ?_
  have hr : rd4 ((frF g s).take k) = s.length := by
    have a := rd4_fr g h []
    rw [List.append_nil] at a
    rw [← a]
    unfold rd4 by4
    simp only [List.getD_eq_getElem?_getD, List.getElem?_take]
    rw [if_pos (by omega), if_pos (by omega), if_pos (by omega), if_pos (by omega)]
  rw [hr, hl]; exact hk

/-- The records of the frames that l begins with, and how many bytes these have; no more than f of them. -/
def scL (g : List UInt8 → Nat) : Nat → List UInt8 → List (List UInt8) × Nat
  | 0, _ => ([], 0)
  | f + 1, l => match hdF g l with
    | none => ([], 0)
    | some s => (s :: (scL g f (l.drop (8 + s.length))).1, 8 + s.length + (scL g f (l.drop (8 + s.length))).2)

theorem scL_enough (g : List UInt8 → Nat) : ∀ (f f' : Nat) (l : List UInt8), l.length < f → l.length < f' → scL g f l = scL g f' l
  | 0, _, _, h, _ => absurd h (by omega)
  | _, 0, _, _, h => absurd h (by omega)
  | f + 1, f' + 1, l, h, h' => by
    unfold scL
    cases e : hdF g l with
    | none => rfl
    | some s =>
      have q := (hd_some e).2.1
      have i := scL_enough g f f' (l.drop (8 + s.length)) (by rw [List.length_drop]; omega) (by rw [List.length_drop]; omega)
      simp only [i]

/-- The records of the frames that l begins with, and how many bytes these have. -/
def scF (g : List UInt8 → Nat) (l : List UInt8) : List (List UInt8) × Nat := scL g (l.length + 1) l

theorem scF_none {g : List UInt8 → Nat} {l : List UInt8} (h : hdF g l = none) : scF g l = ([], 0) := by
  unfold scF scL; rw [h]

theorem scF_some {g : List UInt8 → Nat} {l s : List UInt8} (h : hdF g l = some s) : scF g l = (s :: (scF g (l.drop (8 + s.length))).1, 8 + s.length + (scF g (l.drop (8 + s.length))).2) := by
  have q := (hd_some h).2.1
  have i := scL_enough g l.length ((l.drop (8 + s.length)).length + 1) (l.drop (8 + s.length)) (by rw [List.length_drop]; omega) (by omega)
  show scL g (l.length + 1) l = _
  unfold scL
  rw [h]
  simp only [i]
  rfl

theorem scF_nil (g : List UInt8 → Nat) : scF g [] = ([], 0) := scF_none (by unfold hdF; rw [if_pos (by simp only [List.length_nil]; omega)])

/-- The frames of several records, one behind the other. -/
def pkF (g : List UInt8 → Nat) (L : List (List UInt8)) : List UInt8 := (L.map (frF g)).flatten

theorem pkF_nil (g : List UInt8 → Nat) : pkF g [] = [] := rfl

theorem pkF_cons (g : List UInt8 → Nat) (s : List UInt8) (L : List (List UInt8)) : pkF g (s :: L) = frF g s ++ pkF g L := rfl

theorem pkF_snoc (g : List UInt8 → Nat) (L : List (List UInt8)) (s : List UInt8) : pkF g (L ++ [s]) = pkF g L ++ frF g s := by
  unfold pkF; rw [List.map_append, List.flatten_append]; simp

/-- Frames and what is behind them. -/
theorem scF_pk (g : List UInt8 → Nat) : ∀ (L : List (List UInt8)), (∀ s, s ∈ L → s.length ≤ 65536) → ∀ r, scF g (pkF g L ++ r) = (L ++ (scF g r).1, (pkF g L).length + (scF g r).2)
  | [], _, r => by simp [pkF_nil]
  | s :: L, h, r => by
    have e : pkF g (s :: L) ++ r = frF g s ++ (pkF g L ++ r) := by rw [pkF_cons, List.append_assoc]
    have d : (frF g s ++ (pkF g L ++ r)).drop (8 + s.length) = pkF g L ++ r := List.drop_left' (frF_length g s)
    have i := scF_pk g L (fun t ht => h t (List.mem_cons_of_mem _ ht)) r
    rw [e, scF_some (hd_fr g (h s (List.mem_cons_self ..)) _), d, i]
    have hl : (pkF g (s :: L)).length = 8 + s.length + (pkF g L).length := by rw [pkF_cons, List.length_append, frF_length]
    show (s :: (L ++ (scF g r).1), 8 + s.length + ((pkF g L).length + (scF g r).2)) = _
    rw [hl, List.cons_append, Nat.add_assoc (8 + s.length)]

/-- FRAMES AND A BEGINNING OF ANOTHER ONE ARE JUST THOSE FRAMES. -/
theorem scF_torn (g : List UInt8 → Nat) {L : List (List UInt8)} (h : ∀ s, s ∈ L → s.length ≤ 65536) {s : List UInt8} (hs : s.length ≤ 65536) {k : Nat} (hk : k < 8 + s.length) :
    scF g (pkF g L ++ (frF g s).take k) = (L, (pkF g L).length) := by
  rw [scF_pk g L h, scF_none (hd_torn g hs hk), List.append_nil, Nat.add_zero]

theorem scF_packed (g : List UInt8 → Nat) {L : List (List UInt8)} (h : ∀ s, s ∈ L → s.length ≤ 65536) : scF g (pkF g L) = (L, (pkF g L).length) := by
  have a := scF_pk g L h []
  rw [List.append_nil, scF_nil, List.append_nil, Nat.add_zero] at a
  exact a

/-- What is told: the bytes are the frames of the records that are told, and what is behind them begins with no frame. -/
theorem scF_is (g : List UInt8 → Nat) : ∀ (n : Nat) (l : List UInt8), l.length ≤ n → (scF g l).2 ≤ l.length ∧ (scF g l).2 = (pkF g (scF g l).1).length ∧ l.take (scF g l).2 = pkF g (scF g l).1 ∧ hdF g (l.drop (scF g l).2) = none ∧ ∀ s, s ∈ (scF g l).1 → s.length ≤ 65536
  | n, l, hn => by
    cases e : hdF g l with
    | none =>
      rw [scF_none e]
      exact ⟨Nat.zero_le _, rfl, rfl, e, fun s hs => absurd hs (by simp)⟩
    | some s =>
      obtain ⟨q1, q2, _, q4, q5⟩ := hd_some e
      rw [scF_some e]
      cases n with
      | zero => omega
      | succ n =>
        obtain ⟨i1, i2, i3, i4, i5⟩ := scF_is g n (l.drop (8 + s.length)) (by rw [List.length_drop]; omega)
        rw [List.length_drop] at i1
        refine ⟨by simp only; omega, ?_, ?_, ?_, ?_⟩
        · simp only [pkF_cons, List.length_append, frF_length]; omega
        · simp only
          rw [List.take_add, q4, i3, pkF_cons]
        · simp only
          rw [← List.drop_drop]; exact i4
        · intro t ht
          rcases List.mem_cons.1 ht with rfl | ht
          · exact q1
          · exact i5 t ht

/-- All of the bytes are frames: just where they are the frames of what is told. -/
theorem scF_whole (g : List UInt8 → Nat) (l : List UInt8) : (scF g l).2 = l.length ↔ ∃ L : List (List UInt8), (∀ s, s ∈ L → s.length ≤ 65536) ∧ l = pkF g L := by
  constructor
  · intro h
    obtain ⟨_, _, i3, _, i5⟩ := scF_is g l.length l (Nat.le_refl _)
    refine ⟨(scF g l).1, i5, ?_⟩
    rw [h, List.take_length] at i3; exact i3
  · rintro ⟨L, hL, rfl⟩
    rw [scF_packed g hL]

/-- One record alone. -/
theorem scF_one (g : List UInt8 → Nat) (l s : List UInt8) : ((scF g l).1 = [s] ∧ (scF g l).2 = l.length) ↔ (l = frF g s ∧ s.length ≤ 65536) := by
  constructor
  · rintro ⟨h1, h2⟩
    obtain ⟨_, _, i3, _, i5⟩ := scF_is g l.length l (Nat.le_refl _)
    rw [h2, List.take_length, h1, pkF_cons, pkF_nil, List.append_nil] at i3
    exact ⟨i3, i5 s (by rw [h1]; exact List.mem_cons_self ..)⟩
  · rintro ⟨rfl, h⟩
    have a := scF_packed g (L := [s]) (fun t ht => by rcases List.mem_cons.1 ht with rfl | ht; exact h; exact absurd ht (by simp))
    rw [pkF_cons, pkF_nil, List.append_nil] at a
    rw [a]; exact ⟨rfl, rfl⟩

end Go.Proofs.YtahdgdoicpgcmaaDoor

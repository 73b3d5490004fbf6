/-
  The longest row of noughts, and the text of eight groups, as the reference of package addr goes for them: no program.
-/
import Derived.Test.YtgbpnekinbdadaaDoorAddrT
namespace Go.Proofs.YtgbpnekinbdadaaDoor
open Go.ChangeShapes Go.WideShapes Go.ChangeAt Go.RowKit
set_option linter.unusedVariables false
set_option linter.unusedSimpArgs false

/-- How many noughts stand first. -/
def lead : List Nat → Nat
  | [] => 0
  | x :: r => if x = 0 then lead r + 1 else 0

/-- The first of the longest rows of noughts among those that begin below i: where, how long. -/
def bestR (gs : List Nat) : Nat → Nat × Nat
  | 0 => (0, 0)
  | i + 1 => if (bestR gs i).2 < lead (gs.drop i) then (i, lead (gs.drop i)) else bestR gs i

theorem lead_le : ∀ gs : List Nat, lead gs ≤ gs.length
  | [] => Nat.le_refl _
  | x :: r => by
    have := lead_le r
    unfold lead
    split
    · simp only [List.length_cons]; omega
    · omega

theorem best_le (gs : List Nat) : ∀ i, i ≤ gs.length → (bestR gs i).1 + (bestR gs i).2 ≤ gs.length ∧ (i = 0 ∨ (bestR gs i).1 < i)
  | 0, _ => by simp [bestR]
  | i + 1, h => by
    have ih := best_le gs i (by omega)
    have l := lead_le (gs.drop i)
    rw [List.length_drop] at l
    unfold bestR
    split
    · exact ⟨by show i + lead (gs.drop i) ≤ _; omega, Or.inr (Nat.lt_succ_self i)⟩
    · rename_i hn
      refine ⟨ih.1, Or.inr ?_⟩
      rcases ih.2 with e | e
      · subst e; show (0 : Nat) < 0 + 1; omega
      · omega

/-- Where noughts stand. -/
def zb (gs : List Nat) : List Nat := gs.map fun x => if x = 0 then 0 else 1

theorem lead_zb : ∀ gs : List Nat, lead (zb gs) = lead gs
  | [] => rfl
  | x :: r => by
    have ih := lead_zb r
    unfold zb at *
    by_cases h : x = 0
    · simp [lead, h, ih]
    · simp [lead, h]

theorem best_zb (gs : List Nat) : ∀ i, bestR (zb gs) i = bestR gs i
  | 0 => rfl
  | i + 1 => by
    have e : (zb gs).drop i = zb (gs.drop i) := by unfold zb; rw [List.map_drop]
    unfold bestR
    rw [best_zb gs i, e, lead_zb]

theorem loF_zb : ∀ (gs : List Nat) (k b m s : Nat), loF (zb gs) k b m s = loF gs k b m s
  | [], _, _, _, _ => rfl
  | x :: r, k, b, m, s => by
    have ih := loF_zb r
    unfold zb at *
    by_cases h : x = 0
    · subst h
      simp only [List.map_cons, loF, if_true, ih]
    · simp only [List.map_cons, loF, if_neg h, ih, if_pos h, ne_eq, not_false_eq_true, if_true, Nat.one_ne_zero]

theorem agree_b : ∀ b0 b1 b2 b3 b4 b5 b6 b7 : Bool, (fun gs : List Nat => (2 ≤ (bestR gs 8).2 → loR gs = ((bestR gs 8).1, (bestR gs 8).1 + (bestR gs 8).2)) ∧ ((bestR gs 8).2 < 2 → (loR gs).1 = (loR gs).2)) [b0.toNat, b1.toNat, b2.toNat, b3.toNat, b4.toNat, b5.toNat, b6.toNat, b7.toNat] := by
  decide +kernel

theorem best_lo {gs : List Nat} (h : gs.length = 8) : (2 ≤ (bestR gs 8).2 → loR gs = ((bestR gs 8).1, (bestR gs 8).1 + (bestR gs 8).2)) ∧ ((bestR gs 8).2 < 2 → (loR gs).1 = (loR gs).2) := by
  match gs, h with
  | [a0, a1, a2, a3, a4, a5, a6, a7], _ =>
    have e : zb [a0, a1, a2, a3, a4, a5, a6, a7] = [(!decide (a0 = 0)).toNat, (!decide (a1 = 0)).toNat, (!decide (a2 = 0)).toNat, (!decide (a3 = 0)).toNat, (!decide (a4 = 0)).toNat, (!decide (a5 = 0)).toNat, (!decide (a6 = 0)).toNat, (!decide (a7 = 0)).toNat] := by
      have q : ∀ x : Nat, (if x = 0 then 0 else 1) = (!decide (x = 0)).toNat := fun x => by by_cases h : x = 0 <;> simp [h]
      unfold zb
      simp only [List.map_cons, List.map_nil, q]
    have k := agree_b (!decide (a0 = 0)) (!decide (a1 = 0)) (!decide (a2 = 0)) (!decide (a3 = 0)) (!decide (a4 = 0)) (!decide (a5 = 0)) (!decide (a6 = 0)) (!decide (a7 = 0))
    rw [← e] at k
    have l : loR (zb [a0, a1, a2, a3, a4, a5, a6, a7]) = loR [a0, a1, a2, a3, a4, a5, a6, a7] := by unfold loR; rw [loF_zb]
    simpa only [best_zb, l] using k

/-- One more text in the row. -/
theorem joinT_more (b : Int) (ns : List Nat) (x : Nat) (sep : List UInt8) : joinT b (ns ++ [x]) sep = if ns = [] then (txtP b x).data.toList else joinT b ns sep ++ (sep ++ (txtP b x).data.toList) := by
  cases ns with
  | nil => simp [joinT, Lib.join_cons, Lib.joinTail]
  | cons y r =>
    rw [if_neg (by simp)]
    unfold joinT
    rw [List.cons_append, List.map_cons, List.map_cons, Lib.join_cons, Lib.join_cons, List.map_append, List.append_assoc]
    congr 1
    simp [Lib.joinTail, List.map_append, List.flatten_append]

/-- The text of the first i groups, where the row of noughts at f, m long, is left out. -/
def pr6 (gs : List Nat) (f m i : Nat) : List UInt8 :=
  if 2 ≤ m ∧ f < i then joinT 16 (gs.take f) [58] ++ [58, 58] ++ joinT 16 ((gs.take i).drop (f + m)) [58] else joinT 16 (gs.take i) [58]

theorem prL_is (a : Nat) (h : (topP a 128 16 8).length = 8) : prL a = ⟨(pr6 (topP a 128 16 8) (bestR (topP a 128 16 8) 8).1 (bestR (topP a 128 16 8) 8).2 8).toArray⟩ := by
  have k := best_lo h
  have l := best_le (topP a 128 16 8) 8 (by omega)
  unfold prL
  generalize topP a 128 16 8 = gs at *
  have t8 : gs.take 8 = gs := List.take_of_length_le (by omega)
  unfold pr6
  rw [t8]
  by_cases c : 2 ≤ (bestR gs 8).2
  · have k1 := k.1 c
    rw [k1, if_neg (by show ¬ ((bestR gs 8).1 = (bestR gs 8).1 + (bestR gs 8).2); omega), if_pos (⟨c, by omega⟩ : 2 ≤ (bestR gs 8).2 ∧ (bestR gs 8).1 < 8)]
  · rw [if_pos (k.2 (by omega)), if_neg (fun d => c d.1)]
end Go.Proofs.YtgbpnekinbdadaaDoor

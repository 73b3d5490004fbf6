/-
  The text of eight groups, one group after the other: no program.
-/
import Derived.Test.YtgbpnekinbdadaaDoorRPrM
namespace Go.Proofs.YtgbpnekinbdadaaDoor
open Go.ChangeShapes Go.WideShapes Go.ChangeAt Go.RowKit
set_option linter.unusedVariables false
set_option linter.unusedSimpArgs false

/-- A text that ends in something else than a colon. -/
def EndN (t : List UInt8) : Prop := ∃ r x, t = r ++ [x] ∧ x ≠ 58

theorem EndN.pre {t : List UInt8} (h : EndN t) (u : List UInt8) : EndN (u ++ t) := by
  obtain ⟨r, x, rfl, hx⟩ := h
  exact ⟨u ++ r, x, by rw [List.append_assoc], hx⟩

theorem dig_ne : ∀ d : Fin 16, UInt8.ofNat (hexI ((d.val : Nat) : Int)).toNat ≠ 58 := by decide +kernel

theorem low_end (u : Nat) : ∀ j, 0 < j → EndN ((lowH u j).map fun n => UInt8.ofNat n.toNat)
  | 1, _ => ⟨[], _, rfl, by
      have := dig_ne ⟨u / 16 ^ 0 % 16, Nat.mod_lt _ (by decide)⟩
      exact this⟩
  | j + 2, _ => by
    have ih := low_end u (j + 1) (by omega)
    show EndN (UInt8.ofNat (hexI ((u / 16 ^ (j + 1) % 16 : Nat) : Int)).toNat :: (lowH u (j + 1)).map fun n => UInt8.ofNat n.toNat)
    exact EndN.pre ih [_]

theorem hex_end (u : Nat) : EndN (hexT u).data.toList := by
  unfold hexT strOfNums
  exact low_end u _ (by unfold hexLen; split <;> try split <;> try split
                        all_goals omega)

theorem txt16 (n : Nat) : (txtP 16 n).data.toList = (hexT n).data.toList := by unfold txtP; rw [if_neg (by decide)]

theorem join_end (x : Nat) (ns : List Nat) : EndN (joinT 16 (ns ++ [x]) [58]) := by
  rw [joinT_more, txt16]
  split
  · exact hex_end x
  · rw [← List.append_assoc]
    exact (hex_end x).pre _

/-- One more group behind a text: behind nothing, behind a colon, or behind neither. -/
def More (t hx u : List UInt8) : Prop := (t = [] ∧ u = hx) ∨ (∃ r, t = r ++ [58] ∧ u = t ++ hx) ∨ (EndN t ∧ u = t ++ [58] ++ hx)

theorem join_more (X : List UInt8) (ns : List Nat) (x : Nat) (hX : ns = [] → X = [] ∨ ∃ r, X = r ++ [58]) : More (X ++ joinT 16 ns [58]) (hexT x).data.toList (X ++ joinT 16 (ns ++ [x]) [58]) := by
  rw [joinT_more, txt16]
  rcases List.eq_nil_or_concat ns with e | ⟨r, y, e⟩
  · subst e
    rw [if_pos rfl]
    have j0 : joinT 16 ([] : List Nat) [58] = [] := rfl
    rw [j0, List.append_nil]
    rcases hX rfl with e | ⟨r, e⟩
    · subst e
      exact Or.inl ⟨rfl, rfl⟩
    · exact Or.inr (Or.inl ⟨r, e, rfl⟩)
  · rw [List.concat_eq_append] at e
    rw [if_neg (by rw [e]; simp), e]
    exact Or.inr (Or.inr ⟨(join_end y r).pre X, by simp only [List.append_assoc]⟩)

theorem pr6_step (gs : List Nat) (f m i : Nat) (hi : i < gs.length) (h : m < 2 ∨ i < f ∨ f + m ≤ i) : More (pr6 gs f m i) (hexT (gs.getD i 0)).data.toList (pr6 gs f m (i + 1)) := by
  have tk : gs.take (i + 1) = gs.take i ++ [gs.getD i 0] := by
    rw [List.take_add_one, List.getD_eq_getElem?_getD, List.getElem?_eq_getElem hi]
    rfl
  by_cases c : 2 ≤ m ∧ f < i
  · have fm : f + m ≤ i := by omega
    unfold pr6
    rw [if_pos c, if_pos ⟨c.1, by omega⟩, tk, List.drop_append_of_le_length (by rw [List.length_take]; omega)]
    exact join_more _ _ _ (fun _ => Or.inr ⟨joinT 16 (gs.take f) [58] ++ [58], by simp⟩)
  · have c2 : ¬ (2 ≤ m ∧ f < i + 1) := fun d => by omega
    unfold pr6
    rw [if_neg c, if_neg c2, tk]
    have := join_more [] (gs.take i) (gs.getD i 0) (fun _ => Or.inl rfl)
    simpa only [List.nil_append] using this

theorem pr6_skip (gs : List Nat) (f m : Nat) (hm : 2 ≤ m) (hl : f + m ≤ gs.length) : pr6 gs f m (f + m) = pr6 gs f m f ++ [58, 58] := by
  unfold pr6
  rw [if_pos ⟨hm, by omega⟩, if_neg (fun d => by omega), List.drop_of_length_le (by rw [List.length_take]; omega)]
  show _ ++ [] = _
  rw [List.append_nil]

theorem joinL_len (b : Int) (ns : List Nat) (h : ∀ n ∈ ns, n < 65536) : (joinT b ns [58]).length ≤ 101 * ns.length := by
  cases ns with
  | nil => exact Nat.le_refl _
  | cons x r =>
    have hx : ∀ n, n < 65536 → (txtP b n).data.toList.length ≤ 100 := fun n hn => by
      have := txtP_size (b := b) hn
      rw [Array.length_toList]
      exact this
    unfold joinT
    rw [List.map_cons, Lib.join_cons, List.length_append, List.length_cons]
    have a := hx x (h x (by simp))
    have q : (Lib.joinTail [58] (r.map fun n => (txtP b n).data.toList)).length ≤ 101 * r.length := by
      have hr : ∀ n ∈ r, n < 65536 := fun n hn => h n (by simp [hn])
      clear h a
      induction r with
      | nil => simp [Lib.joinTail]
      | cons y u ih =>
        have k := hx y (hr y (by simp))
        have i := ih (fun n hn => hr n (by simp [hn]))
        simp only [List.map_cons, Lib.joinTail, List.flatten_cons, List.length_append, List.length_cons, List.length_nil] at i ⊢
        omega
    omega

theorem pr6_size (gs : List Nat) (h : ∀ n ∈ gs, n < 65536) (h8 : gs.length ≤ 8) (f m i : Nat) : (pr6 gs f m i).length ≤ 2000 := by
  have t (k : Nat) : ((gs.take k).length ≤ 8) := by rw [List.length_take]; omega
  have d (k j : Nat) : (((gs.take k).drop j).length ≤ 8) := by have := t k; rw [List.length_drop]; omega
  have a (k : Nat) := joinL_len 16 (gs.take k) (fun n hn => h n (List.mem_of_mem_take hn))
  have b (k j : Nat) := joinL_len 16 ((gs.take k).drop j) (fun n hn => h n (List.mem_of_mem_take (List.mem_of_mem_drop hn)))
  unfold pr6
  split
  · have := a f
    have := b i (f + m)
    have := t f
    have := d i (f + m)
    simp only [List.length_append, List.length_cons, List.length_nil]
    omega
  · have := a i
    have := t i
    omega

theorem pr6_zero (gs : List Nat) (f m : Nat) : pr6 gs f m 0 = [] := by
  unfold pr6
  rw [if_neg (fun d => by omega)]
  rfl
end Go.Proofs.YtgbpnekinbdadaaDoor

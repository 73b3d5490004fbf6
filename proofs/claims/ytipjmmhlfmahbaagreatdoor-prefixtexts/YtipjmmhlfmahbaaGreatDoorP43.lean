/-
  Texts PTm of the proof.
-/
import Derived.Test.YtipjmmhlfmahbaaGreatDoorP36
import Derived.Test.YtipjmmhlfmahbaaGreatDoorP30

namespace Go.Proofs.YtipjmmhlfmahbaaGreatDoor
open Go.ChangeShapes Go.WideShapes Go.ChangeAt Go.RowKit
set_option linter.unusedVariables false
set_option linter.unusedSimpArgs false

theorem dig_ne47 : ∀ d : Fin 16, UInt8.ofNat (hexI ((d.val : Nat) : Int)).toNat ≠ 47 := by decide +kernel

theorem low_no47 (n : Nat) : ∀ j, (47 : UInt8) ∉ (lowH n j).map fun x => UInt8.ofNat x.toNat
  | 0 => by simp [lowH]
  | j + 1 => by
    have ih := low_no47 n j
    have h := dig_ne47 ⟨n / 16 ^ j % 16, Nat.mod_lt _ (by decide)⟩
    simp only [lowH, List.map_cons, List.mem_cons, not_or]
    exact ⟨fun e => h e.symm, ih⟩

theorem hx_no47 (n : Nat) : (47 : UInt8) ∉ hxL n := by rw [hxL_is]; exact low_no47 n _

theorem dec_no47 : ∀ d : Fin 256, decV (txtP 10 d.val).data.toList = some d.val ∧ (47 : UInt8) ∉ (txtP 10 d.val).data.toList := by decide +kernel

theorem join_no47 (b : Int) (c : UInt8) (hc : c ≠ 47) : ∀ ns : List Nat, (∀ n ∈ ns, (47 : UInt8) ∉ (txtP b n).data.toList) → (47 : UInt8) ∉ joinT b ns [c]
  | [], _ => by intro h; cases h
  | [x], h => by rw [joinT_one]; exact h x (by simp)
  | x :: y :: r, h => by
    rw [joinT_two]
    have ih := join_no47 b c hc (y :: r) (fun n m => h n (List.mem_cons_of_mem _ m))
    have h0 := h x (by simp)
    simp only [List.mem_append, List.mem_cons, not_or]
    exact ⟨h0, fun e => hc e.symm, ih⟩

theorem prA_no47 (v : Bool) (a : Nat) : (47 : UInt8) ∉ (prA v a).data.toList := by
  have H : ∀ n : Nat, (47 : UInt8) ∉ (txtP 16 n).data.toList := fun n => hx_no47 n
  unfold prA
  split
  · split
    · unfold prL
      split
      · exact join_no47 16 58 (by decide) _ (fun n _ => H n)
      · show (47 : UInt8) ∉ joinT 16 _ [58] ++ [58, 58] ++ joinT 16 _ [58]
        simp only [List.mem_append, not_or]
        exact ⟨⟨join_no47 16 58 (by decide) _ (fun n _ => H n), by decide⟩, join_no47 16 58 (by decide) _ (fun n _ => H n)⟩
    · refine join_no47 10 46 (by decide) _ (fun n m => (dec_no47 ⟨n, ?_⟩).2)
      rw [top4] at m
      simp only [List.mem_cons, List.not_mem_nil, or_false] at m
      rcases m with rfl | rfl | rfl | rfl <;> exact Nat.mod_lt _ (by decide)
  · intro h; cases h

/-- What is printed is read. -/
theorem parse_printP {v : Bool} {a : Nat} {b : Int} (ha : a < 340282366920938463463374607431768211456) (ok : okP v a b = true) : parsePF (prP v a b).data.toList = some (v, a, b.toNat) := by
  obtain ⟨f, _⟩ := okP_parts ok
  obtain ⟨oa, b0, b1⟩ := fitsB_parts f
  have hw := width_le v
  have e : prP v a b = prA v a ++ ⟨#[47]⟩ ++ bitsT b := by unfold prP; rw [if_pos ok]
  have e2 : (prP v a b).data.toList = (prA v a).data.toList ++ 47 :: (bitsT b).data.toList := by
    rw [e, ByteArray.data_append, ByteArray.data_append]
    simp
  have d := (dec_no47 ⟨b.toNat, by omega⟩).1
  have d2 : decV (bitsT b).data.toList = some b.toNat := d
  unfold parsePF
  rw [e2, cut1_at 47 _ _ (prA_no47 v a), parse_print ha oa]
  simp only [d2]
  rw [if_pos (by rw [show ((b.toNat : Nat) : Int) = b by omega]; exact ok)]

theorem prP_size (v : Bool) (a : Nat) (b : Int) : (prP v a b).size ≤ 3000 := by
  unfold prP
  split
  · rename_i ok
    obtain ⟨f, _⟩ := okP_parts ok
    obtain ⟨oa, b0, b1⟩ := fitsB_parts f
    have hw := width_le v
    have s0 := prA_size v a
    have s1 : (bitsT b).size ≤ 20 := by
      have := decDigits_len (n := b.toNat) (by omega)
      show (Lib.decDigits b.toNat).toArray.size ≤ 20
      rw [List.size_toArray]
      exact this
    rw [ByteArray.size_append, ByteArray.size_append]
    show _ + 1 + _ ≤ _
    omega
  · decide
end Go.Proofs.YtipjmmhlfmahbaaGreatDoor

/-
  Texts PrSz of the proof.
-/
import Derived.Test.YtipjmmhlfmahbaaGreatDoorP19

namespace Go.Proofs.YtipjmmhlfmahbaaGreatDoor
open Go.ChangeShapes Go.WideShapes Go.ChangeAt Go.RowKit
set_option linter.unusedVariables false
set_option linter.unusedSimpArgs false

theorem joinT_size (b : Int) (ns : List Nat) (h8 : ns.length ≤ 8) (hm : ∀ n ∈ ns, n < 65536) (c : UInt8) : (joinT b ns [c]).length ≤ 808 := by
  have := join_len (sep := [c]) (L := 100) (by simp) (xs := ns.map fun n => (txtP b n).data.toList) (fun x hx => by
    obtain ⟨m, hm', rfl⟩ := List.mem_map.1 hx
    simpa using txtP_size (b := b) (hm m hm'))
  rw [List.length_map] at this
  have h2 : ns.length * (100 + 1) ≤ 8 * 101 := Nat.mul_le_mul_right _ h8
  unfold joinT
  omega

theorem prA_size (v : Bool) (a : Nat) : (prA v a).size ≤ 2000 := by
  have l4 := topP_length a 32 8 4
  have l8 := topP_length a 128 16 8
  have t4 := topP_lt a 32 8 (by decide) 4
  have t8 := topP_lt a 128 16 (by decide) 8
  unfold prA
  split
  · split
    · unfold prL
      split
      · have := joinT_size 16 (topP a 128 16 8) (by omega) t8 58
        simp [ByteArray.size]; omega
      · have h1 := joinT_size 16 ((topP a 128 16 8).take (loR (topP a 128 16 8)).1) (by simp; omega) (fun n h => t8 n (List.mem_of_mem_take h)) 58
        have h2 := joinT_size 16 ((topP a 128 16 8).drop (loR (topP a 128 16 8)).2) (by simp; omega) (fun n h => t8 n (List.mem_of_mem_drop h)) 58
        simp [ByteArray.size]; omega
    · unfold prS
      have := joinT_size 10 (topP a 32 8 4) (by omega) t4 46
      simp [ByteArray.size]; omega
  · decide
end Go.Proofs.YtipjmmhlfmahbaaGreatDoor

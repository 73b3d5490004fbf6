/-
  cutAct: a call with texts of up to 300 bytes, up to 20 picks.
-/
import Derived.Test.YtoppmpodiofhhaaDkDoor
namespace Go.Proofs.Ytoppmpodiofhhaa
open Go.ChangeShapes Go.WideShapes Go.ChangeAt Go.RowKit
set_option linter.unusedVariables false
set_option linter.unusedSimpArgs false

set_option maxHeartbeats 1000000 in
theorem cutact_c (K A N : Int) (t : ByteArray) (x : Option Addr) (n cap : Nat) (hn : n ≤ cap) (ht : t.size ≤ maxLen) (w : World) :
    Calls Try.prog 8 #[.agg #[.int .i64 K, .int .i64 A, .int .i64 N, .string t, .slice x n cap]] w fun e w' => e = .returned (.agg #[.int .i64 K, .int .i64 A, .int .i64 N, .string (t.extract 0 (min t.size 300)), .slice x (min n 20) cap]) ∧ Below w.heap.size w w' := by
  unfold maxLen at ht
  have e1 : (min (t.size : Int) 300).toNat = min t.size 300 := by omega
  have e2 : (min (n : Int) 20).toNat = min n 20 := by omega
  have bl : Below w.heap.size w ((w.alloc (.cells #[.int .i64 K, .int .i64 A, .int .i64 N, .string t, .slice x n cap] 28)).alloc (.cells #[.int .i64 0, .int .i64 0, .int .i64 0, .string ⟨#[]⟩, .slice none 0 0] 28)) := by repeat (first | with_reducible exact Below.refl _ _ | with_reducible refine Below.drew ?_ | with_reducible refine Below.alloc ?_ (by first | omega | (simp <;> omega)) _ | with_reducible refine Below.setCell ?_ (by first | omega | (simp <;> omega)) _)
  have E1 := hide e1
  have E2 := hide e2
  clear e1 e2 bl
  go_enter Try.func8, Try.ntmps8
  go_wp2_with fail
  have k1 : (min (n : Int) 20) ≤ (cap : Int) := by omega
  refine bodyPost_ret (v := .agg #[.int .i64 K, .int .i64 A, .int .i64 N, .string (t.extract 0 (min (t.size : Int) 300).toNat), .slice x (min (n : Int) 20).toNat cap]) (by simp [results, Try.results8, go_sem]) rfl ⟨by rw [E1.out, E2.out], ?_⟩
  repeat (first | with_reducible exact Below.refl _ _ | with_reducible refine Below.drew ?_ | with_reducible refine Below.alloc ?_ (by first | omega | (simp <;> omega)) _ | with_reducible refine Below.setCell ?_ (by first | omega | (simp <;> omega)) _)

end Go.Proofs.Ytoppmpodiofhhaa
